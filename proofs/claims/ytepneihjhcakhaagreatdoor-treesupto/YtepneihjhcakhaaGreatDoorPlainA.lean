
namespace Go.Proofs.YtepneihjhcakhaaGreatDoor

abbrev Bs := List UInt8

def splitB : Bs → List Bs
  | [] => [[]]
  | c :: r => if c = 47 then [] :: splitB r else match splitB r with
    | [] => [[c]]
    | h :: t => (c :: h) :: t

def joinB : List Bs → Bs
  | [] => []
  | [a] => a
  | a :: b :: r => a ++ 47 :: joinB (b :: r)

def charOK (c : UInt8) : Bool := decide (97 ≤ c) && decide (c ≤ 122)
def nameOK (n : Bs) : Bool := decide (1 ≤ n.length) && decide (n.length ≤ 4) && n.all charOK
def namesB (s : Bs) : List Bs := if s = [] then [] else splitB s
def validB (s : Bs) : Bool := (namesB s).all nameOK

theorem splitB_ne (s : Bs) : splitB s ≠ [] := by
  cases s with
  | nil => simp [splitB]
  | cons c r =>
    simp only [splitB]
    split
    · simp
    · split <;> simp

theorem splitB_cons (s : Bs) : ∃ h t, splitB s = h :: t := by
  cases e : splitB s with
  | nil => exact absurd e (splitB_ne s)
  | cons h t => exact ⟨h, t, rfl⟩

theorem splitB_append (a b : Bs) : ∀ {xs : List Bs} {x y : Bs} {ys : List Bs}, splitB a = xs ++ [x] → splitB b = y :: ys → splitB (a ++ b) = xs ++ (x ++ y) :: ys := by
  induction a with
  | nil =>
    intro xs x y ys h1 h2
    simp only [splitB] at h1
    cases xs with
    | nil => simp at h1; subst h1; simpa using h2
    | cons z zs => simp at h1
  | cons c r ih =>
    intro xs x y ys h1 h2
    simp only [splitB] at h1
    simp only [List.cons_append, splitB]
    by_cases hc : c = 47
    · rw [if_pos hc] at h1 ⊢
      cases xs with
      | nil =>
        simp at h1
        exact absurd h1.2 (splitB_ne r)
      | cons z zs =>
        simp at h1
        obtain ⟨rfl, h1⟩ := h1
        rw [ih h1 h2]; simp
    · rw [if_neg hc] at h1 ⊢
      obtain ⟨h, t, e⟩ := splitB_cons r
      rw [e] at h1
      simp only at h1
      cases xs with
      | nil =>
        simp at h1
        obtain ⟨rfl, rfl⟩ := h1
        rw [ih (xs := []) (x := h) (by simpa using e) h2]; simp
      | cons z zs =>
        simp at h1
        obtain ⟨rfl, rfl⟩ := h1
        rw [ih (xs := h :: zs) (x := x) (by simpa using e) h2]; simp

theorem splitB_none (s : Bs) (h : 47 ∉ s) : splitB s = [s] := by
  induction s with
  | nil => rfl
  | cons c r ih =>
    simp only [List.mem_cons, not_or] at h
    simp only [splitB]
    rw [if_neg (fun e => h.1 e.symm), ih h.2]

theorem splitB_slash (a b : Bs) : splitB (a ++ 47 :: b) = splitB a ++ splitB b := by
  obtain ⟨y, ys, hb⟩ := splitB_cons b
  have h47 : splitB (47 :: b) = [] :: y :: ys := by simp [splitB, hb]
  have hne := splitB_ne a
  have : splitB a = (splitB a).dropLast ++ [(splitB a).getLast hne] := (List.dropLast_concat_getLast hne).symm
  rw [splitB_append a (47 :: b) this h47, hb]
  conv => rhs; rw [this]
  simp

theorem joinB_cons (a : Bs) (r : List Bs) (h : r ≠ []) : joinB (a :: r) = a ++ 47 :: joinB r := by
  cases r with
  | nil => exact absurd rfl h
  | cons b t => rfl

theorem joinB_splitB (s : Bs) : joinB (splitB s) = s := by
  induction s with
  | nil => rfl
  | cons c r ih =>
    simp only [splitB]
    obtain ⟨h, t, e⟩ := splitB_cons r
    by_cases hc : c = 47
    · rw [if_pos hc, joinB_cons _ _ (splitB_ne r), ih, hc]; rfl
    · rw [if_neg hc, e]
      rw [e] at ih
      simp only
      cases t with
      | nil => simp only [joinB] at ih ⊢; rw [ih]
      | cons b t => simp only [joinB] at ih ⊢; rw [← ih]; rfl

theorem splitB_joinB (ks : List Bs) (hne : ks ≠ []) (h : ∀ k ∈ ks, 47 ∉ k) : splitB (joinB ks) = ks := by
  induction ks with
  | nil => exact absurd rfl hne
  | cons a r ih =>
    by_cases hr : r = []
    · subst hr; simp only [joinB]; exact splitB_none a (h a (by simp))
    · rw [joinB_cons a r hr, splitB_slash, splitB_none a (h a (by simp)), ih hr (fun k hk => h k (by simp [hk]))]; rfl

theorem charOK_ne (c : UInt8) (h : charOK c = true) : c ≠ 47 := by
  intro e; subst e; simp [charOK] at h
theorem nameOK_slash {n : Bs} (h : nameOK n = true) : 47 ∉ n := by
  simp only [nameOK, Bool.and_eq_true, List.all_eq_true] at h
  intro hm
  exact charOK_ne _ (h.2 _ hm) rfl
theorem nameOK_ne {n : Bs} (h : nameOK n = true) : n ≠ [] := by
  simp only [nameOK, Bool.and_eq_true, decide_eq_true_eq] at h
  intro e; subst e; simp at h
theorem nameOK_len {n : Bs} (h : nameOK n = true) : 1 ≤ n.length ∧ n.length ≤ 4 := by
  simp only [nameOK, Bool.and_eq_true, decide_eq_true_eq] at h
  exact h.1

/-- A key: names that may be. -/
def keyOK (k : List Bs) : Bool := k.all nameOK

theorem keyOK_mem {k : List Bs} (h : keyOK k = true) {n : Bs} (hn : n ∈ k) : nameOK n = true := by
  simp only [keyOK, List.all_eq_true] at h; exact h n hn

theorem joinB_nil_iff {k : List Bs} (h : keyOK k = true) : joinB k = [] ↔ k = [] := by
  constructor
  · intro e
    cases k with
    | nil => rfl
    | cons a r =>
      exfalso
      by_cases hr : r = []
      · subst hr; exact nameOK_ne (n := a) (keyOK_mem h (by simp)) e
      · rw [joinB_cons a r hr] at e; simp at e
  · intro e; subst e; rfl

theorem namesB_joinB {k : List Bs} (h : keyOK k = true) : namesB (joinB k) = k := by
  unfold namesB
  by_cases hk : k = []
  · subst hk; rfl
  · rw [if_neg (fun e => hk ((joinB_nil_iff h).1 e))]
    exact splitB_joinB k hk (fun n hn => nameOK_slash (keyOK_mem h hn))

theorem joinB_namesB (s : Bs) : joinB (namesB s) = s := by
  unfold namesB
  split
  · rename_i e; subst e; rfl
  · exact joinB_splitB s

theorem validB_keyOK {s : Bs} : validB s = keyOK (namesB s) := rfl
theorem validB_joinB {k : List Bs} (h : keyOK k = true) : validB (joinB k) = true := by rw [validB_keyOK, namesB_joinB h, h]

theorem joinB_inj {k k' : List Bs} (h : keyOK k = true) (h' : keyOK k' = true) (e : joinB k = joinB k') : k = k' := by
  rw [← namesB_joinB h, ← namesB_joinB h', e]

theorem joinB_snoc (k : List Bs) (n : Bs) (hk : k ≠ []) : joinB (k ++ [n]) = joinB k ++ 47 :: n := by
  induction k with
  | nil => exact absurd rfl hk
  | cons a r ih =>
    by_cases hr : r = []
    · subst hr; rfl
    · rw [List.cons_append, joinB_cons a (r ++ [n]) (by simp), joinB_cons a r hr, ih hr]; simp

theorem joinB_append (k r : List Bs) (hk : k ≠ []) (hr : r ≠ []) : joinB (k ++ r) = joinB k ++ 47 :: joinB r := by
  induction k with
  | nil => exact absurd rfl hk
  | cons a t ih =>
    by_cases ht : t = []
    · subst ht; simp only [List.cons_append, List.nil_append]; rw [joinB_cons a r hr]; rfl
    · rw [List.cons_append, joinB_cons a (t ++ r) (by simp [ht]), joinB_cons a t ht, ih ht]; simp

theorem splitB_length (s : Bs) : (splitB s).length = s.count 47 + 1 := by
  induction s with
  | nil => rfl
  | cons c r ih =>
    simp only [splitB]
    obtain ⟨h, t, e⟩ := splitB_cons r
    by_cases hc : c = 47
    · rw [if_pos hc]; subst hc; simp [ih]
    · rw [if_neg hc, e]; rw [e] at ih; simp at ih ⊢; rw [List.count_cons_of_ne hc]; exact ih

/-- Is a text another one, or does it lie below it? -/
def inB (p a : Bs) : Bool := a.isEmpty || decide (p = a) || (decide (a.length < p.length) && decide (p.take a.length = a) && decide (p[a.length]? = some 47))

theorem inB_key {k a : List Bs} (hk : keyOK k = true) (ha : keyOK a = true) : inB (joinB k) (joinB a) = true ↔ a <+: k := by
  unfold inB
  simp only [Bool.or_eq_true, Bool.and_eq_true, decide_eq_true_eq]
  constructor
  · rintro ((h | h) | ⟨⟨h1, h2⟩, h3⟩)
    · have : joinB a = [] := by simpa using h
      rw [joinB_nil_iff ha] at this; subst this; exact List.nil_prefix
    · rw [joinB_inj hk ha h]; exact List.prefix_refl _
    · -- joinB k = joinB a ++ 47 :: rest
      have e : joinB k = joinB a ++ 47 :: (joinB k).drop ((joinB a).length + 1) := by
        have h4 := List.take_append_drop (joinB a).length (joinB k)
        rw [h2] at h4
        have h5 : (joinB k).drop (joinB a).length = 47 :: (joinB k).drop ((joinB a).length + 1) := by
          rw [List.drop_eq_getElem_cons h1]
          have := List.getElem?_eq_getElem h1
          rw [this] at h3
          simp only [Option.some.injEq] at h3
          rw [h3]
        rw [h5] at h4; exact h4.symm
      by_cases hka : k = []
      · subst hka; simp [joinB] at h1
      by_cases haa : a = []
      · subst haa; exact List.nil_prefix
      have s1 := splitB_joinB k hka (fun n hn => nameOK_slash (keyOK_mem hk hn))
      rw [e, splitB_slash, splitB_joinB a haa (fun n hn => nameOK_slash (keyOK_mem ha hn))] at s1
      exact ⟨_, s1⟩
  · rintro ⟨r, rfl⟩
    by_cases haa : a = []
    · subst haa; left; left; rfl
    by_cases hr : r = []
    · subst hr; left; right; simp
    · right
      rw [joinB_append a r haa hr]
      refine ⟨⟨by simp, by simp⟩, by simp⟩

theorem splitB_mem_len (s : Bs) : ∀ x ∈ splitB s, x.length ≤ s.length := by
  induction s with
  | nil => intro x hx; simp [splitB] at hx; subst hx; simp
  | cons c r ih =>
    intro x hx
    simp only [splitB] at hx
    obtain ⟨h, t, e⟩ := splitB_cons r
    by_cases hc : c = 47
    · rw [if_pos hc] at hx
      rcases List.mem_cons.1 hx with rfl | hx
      · simp
      · have := ih x hx; simp; omega
    · rw [if_neg hc, e] at hx
      rcases List.mem_cons.1 hx with rfl | hx
      · have := ih h (by rw [e]; simp); simp; omega
      · have := ih x (by rw [e]; simp [hx]); simp; omega

theorem namesB_mem_len (s : Bs) (x : Bs) (hx : x ∈ namesB s) : x.length ≤ s.length := by
  unfold namesB at hx
  split at hx
  · simp at hx
  · exact splitB_mem_len s x hx
end Go.Proofs.YtepneihjhcakhaaGreatDoor
