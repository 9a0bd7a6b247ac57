import Derived.Test.YtepneihjhcakhaaGreatDoorBorrowC
set_option linter.unusedVariables false
set_option linter.unusedSimpArgs false
namespace Go.Proofs.YtepneihjhcakhaaGreatDoor
open Go.RowKit

/-- A queue, as the document has it. -/
structure Ent where
  key : List Bs
  leaf : Bool
  n0 : Int
  n1 : Int
  b0 : Int
  b1 : Int
def Node.ent (n : Node) : Ent := ⟨n.key, n.leaf, n.n0, n.n1, n.b0, n.b1⟩

def findE (L : List Ent) (k : List Bs) : Option Ent := L.find? fun n => n.key == k
def errInE (L : List Ent) (k : List Bs) : Int := match findE L k with
  | none => 3
  | some p => if p.leaf then 5 else if 20 ≤ L.length then 7 else 0
def errE (L : List Ent) (s : Bs) (ok : Bool) : Int :=
  if validB s = false then 1 else if s = [] then 2 else if ok = false then 6 else if 4 < depthB s then 8
  else if (findE L (namesB s)).isSome then 4 else errInE L (namesB s).dropLast

theorem findE_map (nodes : List Node) (k : List Bs) : findE (nodes.map Node.ent) k = (findKey nodes k).map Node.ent := by
  unfold findE findKey
  induction nodes with
  | nil => rfl
  | cons n l ih =>
    simp only [List.map_cons, List.find?_cons]
    have : (Node.ent n).key = n.key := rfl
    rw [this]
    cases n.key == k <;> simp [ih]
theorem errE_map (nodes : List Node) (s : Bs) (ok : Bool) : errE (nodes.map Node.ent) s ok = errNew nodes s ok := by
  unfold errE errNew errInE errIn
  rw [findE_map, findE_map]
  cases findKey nodes (namesB s) <;> cases findKey nodes (namesB s).dropLast <;> simp [Node.ent]

/-- Whose block it is. -/
structure Tag where
  k : Nat
  t : Nat
  i : Nat
abbrev Tag.free : Tag := ⟨0, 0, 0⟩
abbrev Tag.node (t i : Nat) : Tag := ⟨1, t, i⟩
abbrev Tag.row (t i : Nat) : Tag := ⟨2, t, i⟩
abbrev Tag.tow (t : Nat) : Tag := ⟨3, t, 0⟩
abbrev Tag.ref (t : Nat) : Tag := ⟨4, t, 0⟩
abbrev Tag.rrow (t : Nat) : Tag := ⟨5, t, 0⟩
abbrev Tag.law : Tag := ⟨6, 0, 0⟩
abbrev Tag.lawT : Tag := ⟨7, 0, 0⟩
abbrev Tag.lawN : Tag := ⟨8, 0, 0⟩
abbrev Tag.lawE : Tag := ⟨9, 0, 0⟩
abbrev Tag.lawA : Tag := ⟨10, 0, 0⟩
abbrev Tag.lawB : Tag := ⟨11, 0, 0⟩
abbrev Tag.lst : Tag := ⟨12, 0, 0⟩

def Tag.prog (t : Nat) : Tag → Prop
  | ⟨1, t', _⟩ => t' = t
  | ⟨2, t', _⟩ => t' = t
  | ⟨3, t', _⟩ => t' = t
  | _ => False
def Tag.refs (t : Nat) : Tag → Prop
  | ⟨4, t', _⟩ => t' = t
  | ⟨5, t', _⟩ => t' = t
  | _ => False
theorem Tag.prog_cases {x : Tag} {t : Nat} (h : x.prog t) : (x.k = 1 ∨ x.k = 2 ∨ x.k = 3) ∧ x.t = t := by
  unfold Tag.prog at h
  split at h <;> first | exact ⟨by simp, h⟩ | exact h.elim
theorem Tag.refs_cases {x : Tag} {t : Nat} (h : x.refs t) : (x.k = 4 ∨ x.k = 5) ∧ x.t = t := by
  unfold Tag.refs at h
  split at h <;> first | exact ⟨by simp, h⟩ | exact h.elim

/-- A tower of the program. -/
structure ProgAt (τ : Nat → Tag) (t : Nat) (W : World) (bt : Nat) (nodes : List Node) : Prop where
  tree : Tree nodes
  ins : ∀ n ∈ nodes, NodeIn W n
  tags : ∀ (i : Nat) (n : Node), nodes[i]? = some n → τ n.blk = .node t i ∧ ∀ g, n.sl.ownBlock = some g → τ g = .row t i
  tow : ∃ r, nodes[0]? = some r ∧ Blk W bt 63 #[nptr r.blk]
  ttag : τ bt = .tow t

theorem ProgAt.keep {τ τ' : Nat → Tag} {t : Nat} {W W' : World} {bt : Nat} {nodes : List Node} (h : ProgAt τ t W bt nodes) {T : Nat → Prop} (k : Keep T W W') (hT : ∀ b, b < W.heap.size → T b → ¬ (τ b).prog t)
    (hτ : ∀ b, b < W.heap.size → τ' b = τ b) : ProgAt τ' t W' bt nodes := by
  obtain ⟨r, hr, hb⟩ := h.tow
  have hlt : ∀ (i : Nat) (n : Node), nodes[i]? = some n → n.blk < W.heap.size ∧ ∀ g, n.sl.ownBlock = some g → g < W.heap.size := fun i n hn =>
    ⟨(h.ins n (List.mem_of_getElem? hn)).lt, fun g hg => ((h.ins n (List.mem_of_getElem? hn)).row.lt g hg).2⟩
  refine ⟨h.tree, fun n hn => ?_, fun i n hn => ?_, ⟨r, hr, ?_⟩, ?_⟩
  · obtain ⟨i, hi⟩ := List.getElem?_of_mem hn
    obtain ⟨t1, t2⟩ := h.tags i n hi
    obtain ⟨l1, l2⟩ := hlt i n hi
    exact (h.ins n hn).keep k (fun hb => hT _ l1 hb (by rw [t1]; rfl)) (fun g hg hb => hT _ (l2 g hg) hb (by rw [t2 g hg]; rfl))
  · obtain ⟨t1, t2⟩ := h.tags i n hn
    obtain ⟨l1, l2⟩ := hlt i n hn
    exact ⟨by rw [hτ _ l1]; exact t1, fun g hg => by rw [hτ _ (l2 g hg)]; exact t2 g hg⟩
  · exact hb.keep k (fun hb' => hT _ hb.lt hb' (by rw [h.ttag]; rfl))
  · rw [hτ _ hb.lt]; exact h.ttag

/-- A new queue in the tower. -/
theorem ProgAt.hung {τ : Nat → Tag} {t : Nat} {W w w' : World} {bt : Nat} {nodes : List Node} (h : ProgAt τ t W bt nodes) (hWw : Below W.heap.size W w) {q : Nat} (hq : W.heap.size ≤ q) {s : Bs} {leaf : Bool} {a b c d : Int}
    (hv : validB s = true) (hd : depthB s ≤ 4) (hnum : (0 ≤ a ∧ a ≤ 1000) ∧ (0 ≤ b ∧ b ≤ 1000) ∧ (0 ≤ c ∧ c ≤ 1000) ∧ (0 ≤ d ∧ d ≤ 1000) ∧ (leaf = false → a = 0 ∧ b = 0))
    (hp : HungPost nodes q s leaf a b c d w w') :
    ∃ τ' nodes', (∀ x, x < W.heap.size → τ' x = τ x) ∧ (∀ x, W.heap.size ≤ x → τ' x = .free ∨ (τ' x).prog t) ∧ ProgAt τ' t w' bt nodes' ∧ nodes'.map Node.ent = nodes.map Node.ent ++ [⟨namesB s, leaf, a, b, c, d⟩] ∧
      Keep (fun x => (x < W.heap.size ∧ (τ x).prog t)) W w' := by
  obtain ⟨p, nm, ks, at_, sl, hpn, hpl, hnm, h20, hno, H⟩ := hp.ex
  have T := h.tree
  obtain ⟨j, hj⟩ := List.getElem?_of_mem hpn
  have hInW : ∀ n ∈ nodes, NodeIn w n := fun n hn => (h.ins n hn).below hWw
  have hlt : ∀ n ∈ nodes, n.blk < W.heap.size ∧ ∀ g, n.sl.ownBlock = some g → g < W.heap.size := fun n hn => ⟨(h.ins n hn).lt, fun g hg => ((h.ins n hn).row.lt g hg).2⟩
  obtain ⟨p', hp'⟩ : ∃ p', p' = p.with1 at_ q sl := ⟨_, rfl⟩
  obtain ⟨m, hm⟩ : ∃ m : Node, m = { blk := q, key := p.key ++ [nm], leaf := leaf, n0 := a, n1 := b, b0 := c, b1 := d, up := some p.blk, sl := .slice none 0 0, kids := [] } := ⟨_, rfl⟩
  have hmk : m.key = p.key ++ [nm] := by rw [hm]
  obtain ⟨up, hup⟩ : ∃ up : Node → Node, up = fun n => if n.key = p.key then p' else n := ⟨_, rfl⟩
  have hupp : up p = p' := by rw [hup]; simp
  have hupo : ∀ n ∈ nodes, n.key ≠ p.key → up n = n := fun n hn hk => by rw [hup]; simp [hk]
  have hupc : ∀ n ∈ nodes, (n = p ∧ up n = p') ∨ (n.key ≠ p.key ∧ up n = n) := fun n hn => by
    by_cases hk : n.key = p.key
    · obtain rfl := T.inj n hn p hpn hk; exact .inl ⟨rfl, hupp⟩
    · exact .inr ⟨hk, hupo n hn hk⟩
  have p'k : p'.key = p.key ∧ p'.leaf = p.leaf ∧ p'.n0 = p.n0 ∧ p'.n1 = p.n1 ∧ p'.b0 = p.b0 ∧ p'.b1 = p.b1 ∧ p'.up = p.up ∧ p'.blk = p.blk ∧ p'.sl = sl ∧ p'.kids = p.kids.take at_ ++ q :: p.kids.drop at_ := by rw [hp']; simp [Node.with1]
  have upk : ∀ n ∈ nodes, (up n).key = n.key ∧ (up n).leaf = n.leaf ∧ (up n).n0 = n.n0 ∧ (up n).n1 = n.n1 ∧ (up n).b0 = n.b0 ∧ (up n).b1 = n.b1 ∧ (up n).up = n.up ∧ (up n).blk = n.blk := fun n hn => by
    rcases hupc n hn with ⟨rfl, e⟩ | ⟨_, e⟩
    · rw [e]; exact ⟨p'k.1, p'k.2.1, p'k.2.2.1, p'k.2.2.2.1, p'k.2.2.2.2.1, p'k.2.2.2.2.2.1, p'k.2.2.2.2.2.2.1, p'k.2.2.2.2.2.2.2.1⟩
    · rw [e]; exact ⟨rfl, rfl, rfl, rfl, rfl, rfl, rfl, rfl⟩
  have hmem : ∀ n, n ∈ nodes.map up ++ [m] ↔ (∃ n0 ∈ nodes, n = up n0) ∨ n = m := fun n => by
    simp only [List.mem_append, List.mem_map, List.mem_singleton]
    constructor
    · rintro (⟨n0, h1, rfl⟩ | rfl)
      · exact .inl ⟨n0, h1, rfl⟩
      · exact .inr rfl
    · rintro (⟨n0, h1, rfl⟩ | rfl)
      · exact .inl ⟨n0, h1, rfl⟩
      · exact .inr rfl
  have hkeyno : ∀ n ∈ nodes, n.key ≠ p.key ++ [nm] := fun n hn => by rw [← hnm]; exact hno n hn
  have hkok : keyOK (p.key ++ [nm]) = true := by rw [← hnm, ← validB_keyOK]; exact hv
  have hkeys : (nodes.map up ++ [m]).map (·.key) = nodes.map (·.key) ++ [p.key ++ [nm]] := by
    simp only [List.map_append, List.map_map, List.map_cons, List.map_nil, hmk]
    congr 1
    exact List.map_congr_left (fun n hn => (upk n hn).1)
  -- the tags
  obtain ⟨τ', hτ'⟩ : ∃ τ' : Nat → Tag, τ' = fun x => if x < W.heap.size then τ x else if x = q then .node t nodes.length else if sl.ownBlock = some x then .row t j else .free := ⟨_, rfl⟩
  have hτo : ∀ x, x < W.heap.size → τ' x = τ x := fun x hx => by rw [hτ']; simp [hx]
  have hτq : τ' q = .node t nodes.length := by rw [hτ']; simp [Nat.not_lt.2 hq]
  have hpj := h.tags j p hj
  have hsl : ∀ g, sl.ownBlock = some g → τ' g = .row t j := fun g hg => by
    rcases H.own with e | ⟨g', e, hg'⟩
    · rw [e] at hg
      rw [hτo g ((hlt p hpn).2 g hg)]; exact hpj.2 g hg
    · rw [e] at hg; cases hg
      have h1 : ¬ g < W.heap.size := by have := hWw.size; omega
      have h2 : g ≠ q := fun e2 => by
        have := H.new.lt
        have := (H.par.row.lt g (by rw [show (p.with1 at_ q sl).sl = sl from rfl, e])).2
        -- the row of the parent is not the new queue's block: their types differ
        have hA := H.new.at_
        obtain ⟨_, hr⟩ := H.par.row
        rcases hr with ⟨hv', _⟩ | ⟨g2, cap, cur, hv', _, hg2, _⟩
        · rw [show (p.with1 at_ q sl).sl = sl from rfl] at hv'; rw [hv'] at e; cases e
        · rw [show (p.with1 at_ q sl).sl = sl from rfl] at hv'; rw [hv'] at e; injection e with e
          have e3 : g2 = q := (show g2 = g from e).trans e2
          rw [e3] at hg2
          have h9 := hg2.symm.trans hA
          injection h9 with h9
          injection h9 with _ h9 _
          exact absurd h9 (by decide)
      rw [hτ']; simp [h1, h2, e]
  have hKeep : Keep (fun x => (x < W.heap.size ∧ (τ x).prog t)) W w' := by
    refine ⟨H.keep.os.trans hWw.os, H.keep.tape.trans hWw.tape, H.keep.output.trans hWw.output, Nat.le_trans hWw.size H.keep.size, fun x hx hn => ?_⟩
    refine (H.keep.block x (Nat.lt_of_lt_of_le hx hWw.size) ?_).trans (hWw.block x hx)
    rintro (rfl | rfl | e)
    · exact hn ⟨hx, by rw [hpj.1]; rfl⟩
    · omega
    · exact hn ⟨hx, by rw [hpj.2 x e]; rfl⟩
  have hother : ∀ (i : Nat) (n : Node), nodes[i]? = some n → i ≠ j → NodeIn w' n := fun i n hi hij => by
    have hn := List.mem_of_getElem? hi
    obtain ⟨t1, t2⟩ := h.tags i n hi
    refine (hInW n hn).keep H.keep ?_ ?_
    · rintro (e | e | e)
      · rw [e, hpj.1] at t1; injection t1 with _ _ t1; exact hij t1.symm
      · have := (hlt n hn).1; omega
      · rw [hpj.2 _ e] at t1; cases t1
    · intro g hg
      have t3 := t2 g hg
      rintro (e | e | e)
      · rw [e, hpj.1] at t3; cases t3
      · have := (hlt n hn).2 g hg; omega
      · rw [hpj.2 _ e] at t3; injection t3 with _ _ t3; exact hij t3.symm
  refine ⟨τ', nodes.map up ++ [m], hτo, ?_, ⟨?_, ?_, ?_, ?_, ?_⟩, ?_, hKeep⟩
  · intro x hx
    rw [hτ']
    simp only [Nat.not_lt.2 hx, if_false]
    by_cases h1 : x = q
    · right; simp [h1, Tag.prog]
    · by_cases h2 : sl.ownBlock = some x
      · right; simp [h1, h2, Tag.prog]
      · left; simp [h1, h2]
  · -- the tree
    refine ⟨?_, ?_, ?_, ?_, ?_, ?_, ?_, ?_, ?_⟩
    · obtain ⟨r, h0, h1, h2, h3, h4⟩ := T.root
      have hrn := List.mem_of_getElem? h0
      have u := upk r hrn
      refine ⟨up r, ?_, by rw [u.1]; exact h1, by rw [u.2.1]; exact h2, by rw [u.2.2.2.2.1]; exact h3, by rw [u.2.2.2.2.2.1]; exact h4⟩
      rw [List.getElem?_append_left (by simp; exact (List.getElem?_eq_some_iff.1 h0).1)]
      simp [h0]
    · intro n hn n2 hn2 e
      rcases (hmem n).1 hn with ⟨x, hx, rfl⟩ | rfl <;> rcases (hmem n2).1 hn2 with ⟨y, hy, rfl⟩ | rfl
      · rw [(upk x hx).1, (upk y hy).1] at e; rw [T.inj x hx y hy e]
      · rw [(upk x hx).1, hmk] at e; exact absurd e (hkeyno x hx)
      · rw [(upk y hy).1, hmk] at e; exact absurd e.symm (hkeyno y hy)
      · rfl
    · rw [hkeys]
      refine List.nodup_append.2 ⟨T.nodup, by simp, ?_⟩
      intro k hk k2 hk2 e
      simp only [List.mem_singleton] at hk2
      obtain ⟨n, hn, rfl⟩ := List.mem_map.1 hk
      rw [hk2] at e; exact hkeyno n hn e
    · intro n hn
      rcases (hmem n).1 hn with ⟨x, hx, rfl⟩ | rfl
      · rw [(upk x hx).1]; exact T.ok x hx
      · rw [hmk]; refine ⟨hkok, ?_⟩; rw [← hnm]; exact hd
    · intro n hn
      rcases (hmem n).1 hn with ⟨x, hx, rfl⟩ | rfl
      · obtain ⟨_, u1, u2, u3, u4, u5, _⟩ := upk x hx
        rw [u1, u2, u3, u4, u5]; exact T.num x hx
      · rw [hm]; exact hnum
    · intro n hn hk
      rcases (hmem n).1 hn with ⟨x, hx, rfl⟩ | rfl
      · rw [(upk x hx).2.2.2.2.2.2.1]; exact T.top x hx (by rw [← (upk x hx).1]; exact hk)
      · rw [hmk] at hk; simp at hk
    · intro n hn k x hk
      rcases (hmem n).1 hn with ⟨y, hy, rfl⟩ | rfl
      · rw [(upk y hy).1] at hk
        obtain ⟨pp, h1, h2, h3, h4⟩ := T.par y hy k x hk
        obtain ⟨v1, v2, _, _, _, _, _, v3⟩ := upk pp h1
        exact ⟨up pp, (hmem _).2 (.inl ⟨pp, h1, rfl⟩), by rw [v1]; exact h2, by rw [v2]; exact h3, by rw [(upk y hy).2.2.2.2.2.2.1, v3]; exact h4⟩
      · rw [hmk] at hk
        obtain ⟨e1, e2⟩ := List.append_inj' hk rfl
        refine ⟨p', (hmem _).2 (.inl ⟨p, hpn, hupp.symm⟩), by rw [p'k.1]; exact e1, by rw [p'k.2.1]; exact hpl, by rw [hm, p'k.2.2.2.2.2.2.2.1]⟩
    · intro n hn
      rcases (hmem n).1 hn with ⟨y, hy, rfl⟩ | rfl
      · rcases hupc y hy with ⟨rfl, e⟩ | ⟨hne, e⟩
        · -- the parent
          rw [e]
          refine ⟨(ks.map up).take at_ ++ m :: (ks.map up).drop at_, ?_, ?_, ?_⟩
          · rw [p'k.2.2.2.2.2.2.2.2.2, H.kids]
            have : (ks.map up).map (·.blk) = ks.map (·.blk) := by
              rw [List.map_map]; exact List.map_congr_left (fun n hn => (upk n ((H.mem n).1 hn).1).2.2.2.2.2.2.2)
            rw [List.map_append, List.map_cons, List.map_take, List.map_drop, this, hm]
          · intro k
            rw [p'k.1]
            have hin : k ∈ (ks.map up).take at_ ++ m :: (ks.map up).drop at_ ↔ k ∈ ks.map up ∨ k = m := by
              simp only [List.mem_append, List.mem_cons]
              constructor
              · rintro (h1 | h1 | h1)
                · exact .inl (List.mem_of_mem_take h1)
                · exact .inr h1
                · exact .inl (List.mem_of_mem_drop h1)
              · rintro (h1 | h1)
                · rw [← List.take_append_drop at_ (ks.map up)] at h1
                  rcases List.mem_append.1 h1 with h2 | h2
                  · exact .inl h2
                  · exact .inr (.inr h2)
                · exact .inr (.inl h1)
            rw [hin, hmem]
            constructor
            · rintro (h1 | rfl)
              · obtain ⟨z, hz, rfl⟩ := List.mem_map.1 h1
                obtain ⟨hzn, x, hx⟩ := (H.mem z).1 hz
                exact ⟨.inl ⟨z, hzn, rfl⟩, x, by rw [(upk z hzn).1]; exact hx⟩
              · exact ⟨.inr rfl, nm, hmk⟩
            · rintro ⟨h1 | rfl, x, hx⟩
              · obtain ⟨z, hz, rfl⟩ := h1
                rw [(upk z hz).1] at hx
                exact .inl (List.mem_map.2 ⟨z, (H.mem z).2 ⟨hz, x, hx⟩, rfl⟩)
              · exact .inr rfl
          · have hnames : ((ks.map up).take at_ ++ m :: (ks.map up).drop at_).map (fun k => lastN k.key) = (ks.map fun k => lastN k.key).take at_ ++ nm :: (ks.map fun k => lastN k.key).drop at_ := by
              have : (ks.map up).map (fun k => lastN k.key) = ks.map fun k => lastN k.key := by
                rw [List.map_map]; exact List.map_congr_left (fun n hn => by simp only [Function.comp]; rw [(upk n ((H.mem n).1 hn).1).1])
              rw [List.map_append, List.map_cons, List.map_take, List.map_drop, this, hmk, lastN_snoc]
            rw [hnames]
            obtain ⟨f1, f2, f3, f4⟩ := H.found
            have hs := H.sort
            generalize (ks.map fun k => lastN k.key) = ns at hs f1 f2 f3 f4
            have hsplit := List.take_append_drop at_ ns
            rw [← hsplit] at hs
            obtain ⟨s1, s2, s3⟩ := List.pairwise_append.1 hs
            refine List.pairwise_append.2 ⟨s1, List.pairwise_cons.2 ⟨?_, s2⟩, ?_⟩
            · intro y hy
              obtain ⟨i, hi⟩ := List.getElem?_of_mem hy
              rw [List.getElem?_drop] at hi
              have g1 := f3 (at_ + i) y (by omega) hi
              have g2 : cmpB y nm ≠ 0 := fun e0 => by
                have := cmp_zero _ _ e0
                subst this
                rcases Nat.eq_zero_or_pos i with rfl | hpos
                · have := f4.2 (by simpa using hi); cases this
                · have hlt' : at_ < ns.length := by have := (List.getElem?_eq_some_iff.1 hi).1; omega
                  have g3 := f3 at_ _ (Nat.le_refl _) (List.getElem?_eq_getElem hlt')
                  have g4 := List.pairwise_iff_getElem.1 H.sort
                  have hs' := hs
                  rw [hsplit] at hs'
                  have g5 := List.pairwise_iff_getElem.1 hs' at_ (at_ + i) hlt' (List.getElem?_eq_some_iff.1 hi).1 (by omega)
                  rw [(List.getElem?_eq_some_iff.1 hi).2] at g5
                  omega
              have g6 : cmpB nm y = - cmpB y nm := cmp_neg _ _
              omega
            · intro x hx y hy
              obtain ⟨i, hi⟩ := List.getElem?_of_mem hx
              rw [List.getElem?_take] at hi
              split at hi
              · rename_i hlt'
                have g1 := f2 i x hlt' hi
                rcases List.mem_cons.1 hy with rfl | hy
                · exact g1
                · exact s3 x hx y hy
              · cases hi
        · rw [e]
          obtain ⟨ks0, k1, k2, k3⟩ := T.kids y hy
          refine ⟨ks0.map up, ?_, ?_, ?_⟩
          · rw [k1, List.map_map]; exact List.map_congr_left (fun n hn => ((upk n ((k2 n).1 hn).1).2.2.2.2.2.2.2).symm)
          · intro k
            rw [hmem]
            constructor
            · intro h1
              obtain ⟨z, hz, rfl⟩ := List.mem_map.1 h1
              obtain ⟨hzn, x, hx⟩ := (k2 z).1 hz
              exact ⟨.inl ⟨z, hzn, rfl⟩, x, by rw [(upk z hzn).1]; exact hx⟩
            · rintro ⟨h1 | rfl, x, hx⟩
              · obtain ⟨z, hz, rfl⟩ := h1
                rw [(upk z hz).1] at hx
                exact List.mem_map.2 ⟨z, (k2 z).2 ⟨hz, x, hx⟩, rfl⟩
              · rw [hmk] at hx
                exact absurd (List.append_inj' hx rfl).1.symm hne
          · have : (ks0.map up).map (fun k => lastN k.key) = ks0.map fun k => lastN k.key := by
              rw [List.map_map]; exact List.map_congr_left (fun n hn => by simp only [Function.comp]; rw [(upk n ((k2 n).1 hn).1).1])
            rw [this]; exact k3
      · refine ⟨[], by rw [hm]; rfl, fun k => ?_, by simp⟩
        constructor
        · intro h1; cases h1
        · rintro ⟨h1, x, hx⟩
          rw [hmk] at hx
          rcases (hmem k).1 h1 with ⟨z, hz, rfl⟩ | rfl
          · rw [(upk z hz).1] at hx
            obtain ⟨pp, g1, g2, _⟩ := T.par z hz _ _ hx
            exact absurd g2 (hkeyno pp g1)
          · rw [hmk] at hx
            have := congrArg List.length hx; simp at this
    · simp; omega
  · intro n hn
    rcases (hmem n).1 hn with ⟨y, hy, rfl⟩ | rfl
    · rcases hupc y hy with ⟨rfl, e⟩ | ⟨hne, e⟩
      · rw [e, hp']; exact H.par
      · rw [e]
        obtain ⟨i, hi⟩ := List.getElem?_of_mem hy
        exact hother i y hi (fun e2 => by subst e2; rw [hj] at hi; cases hi; exact hne rfl)
    · rw [hm]; exact H.new
  · intro i n hi
    rcases Nat.lt_or_ge i nodes.length with hlt2 | hge
    · rw [List.getElem?_append_left (by simpa using hlt2)] at hi
      simp only [List.getElem?_map, Option.map_eq_some_iff] at hi
      obtain ⟨y, hy, rfl⟩ := hi
      have hyn := List.mem_of_getElem? hy
      obtain ⟨t1, t2⟩ := h.tags i y hy
      refine ⟨by rw [(upk y hyn).2.2.2.2.2.2.2, hτo _ (hlt y hyn).1]; exact t1, fun g hg => ?_⟩
      rcases hupc y hyn with ⟨rfl, e⟩ | ⟨hne, e⟩
      · have hij : i = j := by
          rw [hpj.1] at t1; injection t1 with _ _ t1; exact t1.symm
        rw [e, p'k.2.2.2.2.2.2.2.2.1] at hg
        rw [hij]; exact hsl g hg
      · rw [e] at hg
        rw [hτo _ ((hlt y hyn).2 g hg)]; exact t2 g hg
    · rw [List.getElem?_append_right (by simpa using hge)] at hi
      simp only [List.length_map] at hi
      have : i = nodes.length := by
        rcases Nat.eq_zero_or_pos (i - nodes.length) with h0 | h0
        · omega
        · rw [List.getElem?_eq_none (by simp; omega)] at hi; cases hi
      subst this
      simp at hi
      subst hi
      rw [hm]
      exact ⟨hτq, fun g hg => by cases hg⟩
  · obtain ⟨r, h0, hb⟩ := h.tow
    refine ⟨up r, ?_, ?_⟩
    · rw [List.getElem?_append_left (by simp; exact (List.getElem?_eq_some_iff.1 h0).1)]; simp [h0]
    · rw [(upk r (List.mem_of_getElem? h0)).2.2.2.2.2.2.2]
      refine (hb.below hWw hb.lt).keep H.keep ?_
      rintro (e | e | e)
      · have := h.ttag; rw [e, hpj.1] at this; cases this
      · have := hb.lt; omega
      · have := h.ttag; rw [hpj.2 _ e] at this; cases this
  · obtain ⟨r, h0, hb⟩ := h.tow
    rw [hτo _ hb.lt]; exact h.ttag
  · rw [List.map_append, List.map_map]
    congr 1
    · exact List.map_congr_left (fun n hn => by
        obtain ⟨u0, u1, u2, u3, u4, u5, _⟩ := upk n hn
        simp only [Function.comp, Node.ent, u0, u1, u2, u3, u4, u5])
    · rw [hm, hnm]; rfl
end Go.Proofs.YtepneihjhcakhaaGreatDoor
