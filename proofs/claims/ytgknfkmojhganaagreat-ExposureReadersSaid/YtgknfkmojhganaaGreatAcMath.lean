namespace Go.Proofs.YtgknfkmojhganaaGreat.Di
set_option linter.unusedVariables false

/-- An event of access. -/
structure Ac where
  t : Int
  k : Int
  p : Int
  r : Int
  u : Int
  c : Int
  f : Int
def a0 : Ac := ⟨0, 0, 0, 0, 0, 0, 0⟩
/-- An estate. -/
structure Es where
  n : Int
  e : List Ac
def ag (l : List Ac) (j : Nat) : Ac := l.getD j a0
theorem ag_left {l : List Ac} {x : Ac} {j : Nat} (h : j < l.length) : ag (l ++ [x]) j = ag l j := by
  unfold ag
  rw [List.getD_eq_getElem?_getD, List.getD_eq_getElem?_getD, List.getElem?_append_left h]
theorem ag_end {l : List Ac} {x : Ac} : ag (l ++ [x]) l.length = x := by
  unfold ag
  rw [List.getD_eq_getElem?_getD, List.getElem?_append_right (Nat.le_refl _)]
  simp

/-- Is what an event has beside time and place right? -/
def fitP (n : Int) (x : Ac) : Prop :=
  ((x.k = 1 ∨ x.k = 2) ∧ 0 ≤ x.r ∧ x.r < 24 ∧ x.u = 0 ∧ x.c = 0 ∧ x.f = 0) ∨
  (x.k = 3 ∧ x.t < x.u ∧ x.u ≤ 1099511627776 ∧ x.r = 0 ∧ x.c = 0 ∧ x.f = 0) ∨
  (x.k = 4 ∧ x.r = 0 ∧ x.u = 0 ∧ x.c = 0 ∧ x.f = 0) ∨
  ((x.k = 5 ∨ x.k = 6) ∧ 0 ≤ x.c ∧ x.c < 64 ∧ x.r = 0 ∧ x.u = 0 ∧ x.f = 0) ∨
  (x.k = 7 ∧ 0 ≤ x.f ∧ x.f < n ∧ x.f ≠ x.p ∧ x.r = 0 ∧ x.u = 0 ∧ x.c = 0)
noncomputable def fitB (n : Int) (x : Ac) : Bool := @decide (fitP n x) (Classical.propDecidable _)
theorem fitB_yes {n : Int} {x : Ac} (h : fitP n x) : fitB n x = true := by unfold fitB; exact @decide_eq_true _ (Classical.propDecidable _) h
theorem fitB_no {n : Int} {x : Ac} (h : ¬ fitP n x) : fitB n x = false := by unfold fitB; exact @decide_eq_false _ (Classical.propDecidable _) h
def evP (n : Int) (x : Ac) : Prop := 0 ≤ x.t ∧ x.t ≤ 1099511627776 ∧ 0 ≤ x.p ∧ x.p < n ∧ fitP n x
/-- A valid estate. -/
structure Eok (a : Es) : Prop where
  n1 : 1 ≤ a.n
  n16 : a.n ≤ 16
  m : a.e.length ≤ 120
  e : ∀ j, j < a.e.length → evP a.n (ag a.e j)
  up : ∀ j, j + 1 < a.e.length → (ag a.e j).t ≤ (ag a.e (j + 1)).t
theorem Eok.nil {n : Int} (h1 : 1 ≤ n) (h2 : n ≤ 16) : Eok ⟨n, []⟩ := ⟨h1, h2, by simp, fun j h => absurd h (by simp), fun j h => absurd h (by simp)⟩
theorem Eok.add {n : Int} {l : List Ac} (h : Eok ⟨n, l⟩) {x : Ac} (hl : l.length < 120) (h1 : evP n x) (h2 : ∀ j, j < l.length → (ag l j).t ≤ x.t) : Eok ⟨n, l ++ [x]⟩ := by
  refine ⟨h.n1, h.n16, by simp; omega, fun j hj => ?_, fun j hj => ?_⟩
  · simp at hj
    show evP n (ag (l ++ [x]) j)
    by_cases e : j = l.length
    · rw [e, ag_end]; exact h1
    · rw [ag_left (by omega)]; exact h.e j (by show j < l.length; omega)
  · simp at hj
    show (ag (l ++ [x]) j).t ≤ (ag (l ++ [x]) (j + 1)).t
    by_cases e : j + 1 = l.length
    · rw [e, ag_end, ag_left (by omega)]; exact h2 j (by omega)
    · rw [ag_left (by omega), ag_left (by omega)]; exact h.up j (by show j + 1 < l.length; omega)
theorem Eok.mono {a : Es} (h : Eok a) : ∀ d j, j + d < a.e.length → (ag a.e j).t ≤ (ag a.e (j + d)).t
  | 0, j, _ => Int.le_refl _
  | d + 1, j, hd => Int.le_trans (h.mono d j (by omega)) (h.up (j + d) (by omega))
/-- The time of the last event; 0 without. -/
def lastA (l : List Ac) : Int := if l.length = 0 then 0 else (ag l (l.length - 1)).t
theorem Eok.le_last {a : Es} (h : Eok a) {j : Nat} (hj : j < a.e.length) : (ag a.e j).t ≤ lastA a.e := by
  unfold lastA
  rw [if_neg (by omega)]
  have := h.mono (a.e.length - 1 - j) j (by omega)
  rwa [show j + (a.e.length - 1 - j) = a.e.length - 1 by omega] at this
/-- The time before an event. -/
def befA (l : List Ac) (k : Nat) : Int := if k = 0 then 0 else (ag l (k - 1)).t
theorem befA_succ (l : List Ac) (k : Nat) : befA l (k + 1) = (ag l k).t := by unfold befA; rw [if_neg (by omega)]; rfl
theorem befA_zero (l : List Ac) : befA l 0 = 0 := rfl
/-- Valid as far as the first k events. -/
structure Pok (n : Int) (l : List Ac) (k : Nat) : Prop where
  e : ∀ j, j < k → evP n (ag l j)
  up : ∀ j, j + 1 < k → (ag l j).t ≤ (ag l (j + 1)).t
theorem Pok.zero (n : Int) (l : List Ac) : Pok n l 0 := ⟨fun j h => absurd h (by omega), fun j h => absurd h (by omega)⟩
theorem Pok.bef {n : Int} {l : List Ac} {k : Nat} (h : Pok n l k) : 0 ≤ befA l k := by
  unfold befA
  by_cases e : k = 0
  · rw [if_pos e]; omega
  · rw [if_neg e]; exact (h.e (k - 1) (by omega)).1
theorem Pok.succ {n : Int} {l : List Ac} {k : Nat} (h : Pok n l k) (h1 : befA l k ≤ (ag l k).t) (h2 : (ag l k).t ≤ 1099511627776) (h3 : 0 ≤ (ag l k).p) (h4 : (ag l k).p < n) (h5 : fitP n (ag l k)) : Pok n l (k + 1) := by
  have hb := h.bef
  refine ⟨fun j hj => ?_, fun j hj => ?_⟩
  · by_cases e : j = k
    · rw [e]; exact ⟨by omega, h2, h3, h4, h5⟩
    · exact h.e j (by omega)
  · by_cases e : j + 1 = k
    · rw [e]
      have : befA l k = (ag l j).t := by rw [← e, befA_succ]
      omega
    · exact h.up j (by omega)
theorem Pok.all {n : Int} {l : List Ac} (h : Pok n l l.length) (h1 : 1 ≤ n) (h2 : n ≤ 16) (h3 : l.length ≤ 120) : Eok ⟨n, l⟩ := ⟨h1, h2, h3, h.e, h.up⟩
theorem Eok.not {a : Es} {k : Nat} (hk : k < a.e.length) (h : ¬ (befA a.e k ≤ (ag a.e k).t ∧ (ag a.e k).t ≤ 1099511627776 ∧ 0 ≤ (ag a.e k).p ∧ (ag a.e k).p < a.n ∧ fitP a.n (ag a.e k))) : ¬ Eok a := fun ho => by
  obtain ⟨e1, e2, e3, e4, e5⟩ := ho.e k hk
  refine h ⟨?_, e2, e3, e4, e5⟩
  unfold befA
  by_cases e : k = 0
  · rw [if_pos e]; exact e1
  · rw [if_neg e]
    have := ho.up (k - 1) (by omega)
    rwa [show k - 1 + 1 = k by omega] at this
/-- What Check answers. -/
noncomputable def ck (a : Es) : Int := @ite _ (Eok a) (Classical.propDecidable _) 0 34
theorem ck_ok {a : Es} (h : Eok a) : ck a = 0 := if_pos h
theorem ck_no {a : Es} (h : ¬ Eok a) : ck a = 34 := if_neg h
theorem ck_eq (a : Es) : (ck a = 0 ∧ Eok a) ∨ (ck a = 34 ∧ ¬ Eok a) := by
  by_cases h : Eok a
  · exact .inl ⟨ck_ok h, h⟩
  · exact .inr ⟨ck_no h, h⟩

/-- The last link by which a place is open, among the first k events. -/
def lk (l : List Ac) (p t : Int) : Nat → Option Nat
  | 0 => none
  | k + 1 => if t < (ag l k).t ∨ (ag l k).p ≠ p then lk l p t k else if (ag l k).k = 4 then none else if (ag l k).k = 3 ∧ t < (ag l k).u then some k else lk l p t k
/-- The last grant of a principal, among the first k events. -/
def gr (l : List Ac) (p t r : Int) : Nat → Option Nat
  | 0 => none
  | k + 1 => if t < (ag l k).t ∨ (ag l k).p ≠ p then gr l p t r k else if (ag l k).k = 1 then (if (ag l k).r = r then some k else gr l p t r k) else if (ag l k).k = 2 then (if (ag l k).r = r then none else gr l p t r k) else gr l p t r k
theorem lk_snoc (l : List Ac) (x : Ac) (p t : Int) : ∀ k, k ≤ l.length → lk (l ++ [x]) p t k = lk l p t k
  | 0, _ => rfl
  | k + 1, h => by rw [lk, lk, ag_left (by omega), lk_snoc l x p t k (by omega)]
theorem gr_snoc (l : List Ac) (x : Ac) (p t r : Int) : ∀ k, k ≤ l.length → gr (l ++ [x]) p t r k = gr l p t r k
  | 0, _ => rfl
  | k + 1, h => by rw [gr, gr, ag_left (by omega), gr_snoc l x p t r k (by omega)]
def lkA (l : List Ac) (p t : Int) : Option Nat := lk l p t l.length
def grA (l : List Ac) (p t r : Int) : Option Nat := gr l p t r l.length
theorem lkA_snoc (l : List Ac) (x : Ac) (p t : Int) : lkA (l ++ [x]) p t = if t < x.t ∨ x.p ≠ p then lkA l p t else if x.k = 4 then none else if x.k = 3 ∧ t < x.u then some l.length else lkA l p t := by
  unfold lkA
  rw [List.length_append, List.length_singleton, lk, ag_end, lk_snoc _ _ _ _ _ (Nat.le_refl _)]
theorem grA_snoc (l : List Ac) (x : Ac) (p t r : Int) : grA (l ++ [x]) p t r = if t < x.t ∨ x.p ≠ p then grA l p t r else if x.k = 1 then (if x.r = r then some l.length else grA l p t r) else if x.k = 2 then (if x.r = r then none else grA l p t r) else grA l p t r := by
  unfold grA
  rw [List.length_append, List.length_singleton, gr, ag_end, gr_snoc _ _ _ _ _ _ (Nat.le_refl _)]
theorem gr_lt (l : List Ac) (p t r : Int) : ∀ k i, gr l p t r k = some i → i < k
  | 0, _, h => by cases h
  | k + 1, i, h => by
    have ih := gr_lt l p t r k i
    rw [gr] at h
    split at h
    · have := ih h; omega
    · split at h
      · split at h
        · cases h; omega
        · have := ih h; omega
      · split at h
        · split at h
          · cases h
          · have := ih h; omega
        · have := ih h; omega
theorem lk_lt (l : List Ac) (p t : Int) : ∀ k i, lk l p t k = some i → i < k
  | 0, _, h => by cases h
  | k + 1, i, h => by
    have ih := lk_lt l p t k i
    rw [lk] at h
    split at h
    · have := ih h; omega
    · split at h
      · cases h
      · split at h
        · cases h; omega
        · have := ih h; omega
/-- What a grant that is told is. -/
theorem gr_is (l : List Ac) (p t r : Int) : ∀ k i, gr l p t r k = some i → (ag l i).k = 1 ∧ (ag l i).p = p ∧ (ag l i).r = r ∧ (ag l i).t ≤ t ∧ ∀ j, i < j → j < k → ¬ ((ag l j).k = 2 ∧ (ag l j).p = p ∧ (ag l j).r = r ∧ (ag l j).t ≤ t)
  | 0, _, h => by cases h
  | k + 1, i, h => by
    have ih := gr_is l p t r k i
    have step : gr l p t r k = some i → ¬ ((ag l k).k = 2 ∧ (ag l k).p = p ∧ (ag l k).r = r ∧ (ag l k).t ≤ t) → _ := fun h hk =>
      let ⟨a, b, c, d, e⟩ := ih h
      (⟨a, b, c, d, fun j h1 h2 => if ej : j = k then ej ▸ hk else e j h1 (by omega)⟩ : (ag l i).k = 1 ∧ (ag l i).p = p ∧ (ag l i).r = r ∧ (ag l i).t ≤ t ∧ ∀ j, i < j → j < k + 1 → ¬ ((ag l j).k = 2 ∧ (ag l j).p = p ∧ (ag l j).r = r ∧ (ag l j).t ≤ t))
    rw [gr] at h
    split at h
    · rename_i h0
      exact step h (fun ⟨_, b, _, d⟩ => by omega)
    · rename_i h0
      split at h
      · rename_i h1
        split at h
        · rename_i h2
          cases h
          exact ⟨h1, by omega, h2, by omega, fun j h1 h2 => by omega⟩
        · exact step h (fun ⟨a, _, _, _⟩ => by omega)
      · rename_i h1
        split at h
        · split at h
          · cases h
          · rename_i h3
            exact step h (fun ⟨_, _, c, _⟩ => h3 c)
        · rename_i h2
          exact step h (fun ⟨a, _, _, _⟩ => h2 a)
/-- A principal with a grant is a possible one. -/
theorem Eok.gr_rng {a : Es} (h : Eok a) {p t r : Int} {i : Nat} (hg : grA a.e p t r = some i) : 0 ≤ r ∧ r < 24 := by
  have hi := gr_lt _ _ _ _ _ _ hg
  obtain ⟨a1, _, a3, _⟩ := gr_is _ _ _ _ _ _ hg
  obtain ⟨_, _, _, _, e⟩ := h.e i hi
  unfold fitP at e
  omega
/-- The principals with a grant, ascending. -/
def gtd (l : List Ac) (p t : Int) : List Nat := (List.range 24).filter fun r => (grA l p t (r : Int)).isSome
theorem mem_gtd {a : Es} (h : Eok a) (p t : Int) (r : Nat) : r ∈ gtd a.e p t ↔ (grA a.e p t (r : Int)).isSome = true := by
  unfold gtd
  rw [List.mem_filter, List.mem_range]
  refine ⟨fun h => h.2, fun h1 => ⟨?_, h1⟩⟩
  obtain ⟨i, hi⟩ := Option.isSome_iff_exists.1 h1
  have := h.gr_rng hi
  omega
theorem gtd_len (l : List Ac) (p t : Int) : (gtd l p t).length ≤ 24 := by
  have := List.length_filter_le (fun r => (grA l p t ((r : Nat) : Int)).isSome) (List.range 24)
  rw [List.length_range] at this
  exact this
theorem gtd_congr {l l' : List Ac} {p p' t t' : Int} (h : ∀ r : Nat, (grA l p t (r : Int)).isSome = (grA l' p' t' (r : Int)).isSome) : gtd l p t = gtd l' p' t' := by
  unfold gtd
  exact List.filter_congr fun r _ => h r
/-- Where nothing happens, no link begins and grants stay. -/
theorem lk_quiet (l : List Ac) (p t : Int) : ∀ k, (∀ j, j < k → (ag l j).t ≠ t) → (lk l p t k).isSome = true → (lk l p (t - 1) k).isSome = true
  | 0, _, h => h
  | k + 1, hq, h => by
    have ih := lk_quiet l p t k (fun j hj => hq j (by omega))
    have h0 := hq k (by omega)
    rw [lk] at h ⊢
    by_cases c1 : t < (ag l k).t ∨ (ag l k).p ≠ p
    · rw [if_pos c1] at h
      rw [if_pos (show t - 1 < (ag l k).t ∨ (ag l k).p ≠ p by omega)]
      exact ih h
    · rw [if_neg c1] at h
      rw [if_neg (show ¬ (t - 1 < (ag l k).t ∨ (ag l k).p ≠ p) by omega)]
      by_cases c2 : (ag l k).k = 4
      · rw [if_pos c2] at h; cases h
      · rw [if_neg c2] at h ⊢
        by_cases c3 : (ag l k).k = 3 ∧ t < (ag l k).u
        · rw [if_pos (show (ag l k).k = 3 ∧ t - 1 < (ag l k).u by omega)]; rfl
        · rw [if_neg c3] at h
          split
          · rfl
          · exact ih h
theorem gr_quiet (l : List Ac) (p t r : Int) : ∀ k, (∀ j, j < k → (ag l j).t ≠ t) → gr l p (t - 1) r k = gr l p t r k
  | 0, _ => rfl
  | k + 1, hq => by
    have ih := gr_quiet l p t r k (fun j hj => hq j (by omega))
    have h0 := hq k (by omega)
    rw [gr, gr, ih]
    have e : (t - 1 < (ag l k).t ∨ (ag l k).p ≠ p) ↔ (t < (ag l k).t ∨ (ag l k).p ≠ p) := by omega
    by_cases c : t < (ag l k).t ∨ (ag l k).p ≠ p
    · rw [if_pos (e.2 c), if_pos c]
    · rw [if_neg (fun h => c (e.1 h)), if_neg c]
theorem gr_later (l : List Ac) (p t s r : Int) (hst : s ≤ t) : ∀ k, (∀ j, j < k → (ag l j).t ≤ s) → gr l p t r k = gr l p s r k
  | 0, _ => rfl
  | k + 1, hq => by
    have ih := gr_later l p t s r hst k (fun j hj => hq j (by omega))
    have h0 := hq k (by omega)
    rw [gr, gr, ih]
    have e : (t < (ag l k).t ∨ (ag l k).p ≠ p) ↔ (s < (ag l k).t ∨ (ag l k).p ≠ p) := by omega
    by_cases c : s < (ag l k).t ∨ (ag l k).p ≠ p
    · rw [if_pos (e.2 c), if_pos c]
    · rw [if_neg (fun h => c (e.1 h)), if_neg c]
theorem lk_same {l l' : List Ac} (p t : Int) : ∀ k, (∀ j, j < k → ag l j = ag l' j) → lk l p t k = lk l' p t k
  | 0, _ => rfl
  | k + 1, h => by rw [lk, lk, lk_same p t k (fun j hj => h j (by omega)), h k (by omega)]
theorem gr_same {l l' : List Ac} (p t r : Int) : ∀ k, (∀ j, j < k → ag l j = ag l' j) → gr l p t r k = gr l' p t r k
  | 0, _ => rfl
  | k + 1, h => by rw [gr, gr, gr_same p t r k (fun j hj => h j (by omega)), h k (by omega)]
theorem lk_skip (l : List Ac) (p t : Int) (m : Nat) : ∀ d, (∀ j, m ≤ j → j < m + d → t < (ag l j).t) → lk l p t (m + d) = lk l p t m
  | 0, _ => rfl
  | d + 1, h => by
    rw [show m + (d + 1) = m + d + 1 by omega, lk, if_pos (.inl (h (m + d) (by omega) (by omega)))]
    exact lk_skip l p t m d (fun j h1 h2 => h j h1 (by omega))
theorem gr_skip (l : List Ac) (p t r : Int) (m : Nat) : ∀ d, (∀ j, m ≤ j → j < m + d → t < (ag l j).t) → gr l p t r (m + d) = gr l p t r m
  | 0, _ => rfl
  | d + 1, h => by
    rw [show m + (d + 1) = m + d + 1 by omega, gr, if_pos (.inl (h (m + d) (by omega) (by omega)))]
    exact gr_skip l p t r m d (fun j h1 h2 => h j h1 (by omega))
theorem ag_take {l : List Ac} {m j : Nat} (h : j < m) : ag (l.take m) j = ag l j := by
  unfold ag
  rw [List.getD_eq_getElem?_getD, List.getD_eq_getElem?_getD, List.getElem?_take_of_lt h]
theorem Eok.take {a : Es} (h : Eok a) (m : Nat) : Eok ⟨a.n, a.e.take m⟩ := by
  have hl : (a.e.take m).length ≤ m ∧ (a.e.take m).length ≤ a.e.length := by rw [List.length_take]; omega
  have hm := h.m
  refine ⟨h.n1, h.n16, by show (a.e.take m).length ≤ 120; omega, fun j hj => ?_, fun j hj => ?_⟩
  · have hj' : j < (a.e.take m).length := hj
    show evP a.n (ag (a.e.take m) j)
    rw [ag_take (by omega)]; exact h.e j (by omega)
  · have hj' : j + 1 < (a.e.take m).length := hj
    show (ag (a.e.take m) j).t ≤ (ag (a.e.take m) (j + 1)).t
    rw [ag_take (by omega), ag_take (by omega)]; exact h.up j (by omega)
/-- How many events have happened. -/
theorem Eok.hap {a : Es} (h : Eok a) (t : Int) : ∃ m, m ≤ a.e.length ∧ ∀ j, j < a.e.length → ((ag a.e j).t ≤ t ↔ j < m) := by
  have key : ∀ k, k ≤ a.e.length → ∃ m, m ≤ k ∧ ∀ j, j < k → ((ag a.e j).t ≤ t ↔ j < m) := by
    intro k
    induction k with
    | zero => exact fun _ => ⟨0, by omega, fun j hj => absurd hj (by omega)⟩
    | succ k ih =>
      intro hk
      obtain ⟨m, hm, hj⟩ := ih (by omega)
      by_cases c : (ag a.e k).t ≤ t
      · have : m = k := by
          by_cases e : m = k
          · exact e
          · have h1 := (hj m (by omega)).1
            have h2 := h.mono (k - m) m (by omega)
            rw [show m + (k - m) = k by omega] at h2
            have := h1 (by omega)
            omega
        refine ⟨k + 1, by omega, fun j hj2 => ⟨fun _ => hj2, fun _ => ?_⟩⟩
        have h2 := h.mono (k - j) j (by omega)
        rw [show j + (k - j) = k by omega] at h2
        omega
      · refine ⟨m, by omega, fun j hj2 => ?_⟩
        by_cases e : j = k
        · rw [e]; exact ⟨fun h => absurd h c, fun h => by omega⟩
        · exact hj j (by omega)
  exact key _ (Nat.le_refl _)
theorem cut_lk {a : Es} {t : Int} {m : Nat} (hm : m ≤ a.e.length) (h : ∀ j, j < a.e.length → ((ag a.e j).t ≤ t ↔ j < m)) (p : Int) : lkA (a.e.take m) p t = lkA a.e p t := by
  unfold lkA
  rw [List.length_take, Nat.min_eq_left hm, lk_same p t m (fun j hj => ag_take hj)]
  obtain ⟨d, hd⟩ : ∃ d, a.e.length = m + d := ⟨a.e.length - m, by omega⟩
  rw [hd, lk_skip]
  intro j h1 h2
  have := h j (by omega)
  omega
theorem cut_gr {a : Es} {t : Int} {m : Nat} (hm : m ≤ a.e.length) (h : ∀ j, j < a.e.length → ((ag a.e j).t ≤ t ↔ j < m)) (p r : Int) : grA (a.e.take m) p t r = grA a.e p t r := by
  unfold grA
  rw [List.length_take, Nat.min_eq_left hm, gr_same p t r m (fun j hj => ag_take hj)]
  obtain ⟨d, hd⟩ : ∃ d, a.e.length = m + d := ⟨a.e.length - m, by omega⟩
  rw [hd, gr_skip]
  intro j h1 h2
  have := h j (by omega)
  omega
theorem take_snocA (l : List Ac) {k : Nat} (h : k < l.length) : l.take (k + 1) = l.take k ++ [ag l k] := by
  rw [List.take_succ_eq_append_getElem h]
  congr 2
  unfold ag
  rw [List.getD_eq_getElem?_getD, List.getElem?_eq_getElem h]; rfl

end Go.Proofs.YtgknfkmojhganaaGreat.Di
