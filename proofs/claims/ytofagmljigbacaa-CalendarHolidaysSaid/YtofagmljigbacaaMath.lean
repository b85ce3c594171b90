/- The plain arithmetic of layer 40: working ticks, and how many there are. -/
namespace Go.Proofs.Ytofagmljigbacaa.Cal

/-- Is a tick working? D: ticks of a day; F, T: from, to; W: the week's bits; hs: the holidays. -/
def wk (D F T W : Nat) (hs : List Nat) (t : Nat) : Bool :=
  decide (F ≤ t % D) && decide (t % D < T) && decide (W / 2 ^ (t / D % 7) % 2 = 1) && decide (t / D ∉ hs)

/-- How many of the k ticks from a on are working. -/
def cw (f : Nat → Bool) (a : Nat) : Nat → Nat
  | 0 => 0
  | k + 1 => cw f a k + if f (a + k) then 1 else 0

theorem cw_le (f : Nat → Bool) (a : Nat) : ∀ k, cw f a k ≤ k
  | 0 => by simp [cw]
  | k + 1 => by
    have := cw_le f a k
    simp only [cw]
    split <;> omega

theorem cw_add (f : Nat → Bool) (a i : Nat) : ∀ j, cw f a (i + j) = cw f a i + cw f (a + i) j
  | 0 => by simp [cw]
  | j + 1 => by
    have ih := cw_add f a i j
    rw [← Nat.add_assoc]
    simp only [cw]
    rw [ih, Nat.add_assoc a i j]
    omega

theorem cw_mono (f : Nat → Bool) (a : Nat) {i j : Nat} (h : i ≤ j) : cw f a i ≤ cw f a j := by
  obtain ⟨d, rfl⟩ := Nat.le.dest h
  rw [cw_add]
  omega

theorem cw_imp {f g : Nat → Bool} (h : ∀ t, f t = true → g t = true) (a : Nat) : ∀ k, cw f a k ≤ cw g a k
  | 0 => by simp [cw]
  | k + 1 => by
    have ih := cw_imp h a k
    simp only [cw]
    by_cases hf : f (a + k) = true
    · rw [if_pos hf, if_pos (h _ hf)]
      omega
    · rw [if_neg hf]
      omega

theorem cw_shift {f : Nat → Bool} {p : Nat} (h : ∀ t, f (t + p) = f t) (a : Nat) : ∀ k, cw f (a + p) k = cw f a k
  | 0 => rfl
  | k + 1 => by
    have ih := cw_shift h a k
    simp only [cw]
    rw [ih, show a + p + k = a + k + p from by omega, h]

/-- k is the least number of ticks from t on of which n are working. -/
def Least (f : Nat → Bool) (t n k : Nat) : Prop := cw f t k = n ∧ ∀ j, j < k → cw f t j < n

theorem least_unique {f : Nat → Bool} {t n k k' : Nat} (h : Least f t n k) (h' : Least f t n k') : k = k' := by
  rcases Nat.lt_trichotomy k k' with hlt | rfl | hlt
  · have := h'.2 k hlt
    have := h.1
    omega
  · rfl
  · have := h.2 k' hlt
    have := h'.1
    omega

theorem least_zero (f : Nat → Bool) (t : Nat) : Least f t 0 0 := ⟨rfl, fun j hj => absurd hj (by omega)⟩

theorem least_of {f : Nat → Bool} {t n : Nat} : ∀ m, n ≤ cw f t m → ∃ k, k ≤ m ∧ Least f t n k
  | 0, h => by
    have : n = 0 := by simpa [cw] using h
    subst this
    exact ⟨0, by omega, least_zero f t⟩
  | m + 1, h => by
    by_cases hm : n ≤ cw f t m
    · obtain ⟨k, hk, hl⟩ := least_of m hm
      exact ⟨k, by omega, hl⟩
    · have e : cw f t (m + 1) = n := by
        have h2 : cw f t (m + 1) ≤ cw f t m + 1 := by simp only [cw]; split <;> omega
        omega
      refine ⟨m + 1, by omega, e, fun j hj => ?_⟩
      have := cw_mono f t (show j ≤ m by omega)
      omega

/-- What stands one tick ahead of the end. -/
theorem least_pred {f : Nat → Bool} {t n k : Nat} (h : Least f t n k) (hn : 0 < n) : ∃ j, k = j + 1 ∧ cw f t j = n - 1 ∧ f (t + j) = true := by
  cases k with
  | zero =>
    have := h.1
    simp [cw] at this
    omega
  | succ j =>
    have h1 := h.1
    have h2 := h.2 j (by omega)
    simp only [cw] at h1
    by_cases hf : f (t + j) = true
    · rw [if_pos hf] at h1
      exact ⟨j, rfl, by omega, hf⟩
    · rw [if_neg hf] at h1
      omega

theorem least_parts {f : Nat → Bool} {t a b i j : Nat} (h1 : Least f t a i) (h2 : Least f (t + i) b j) : Least f t (a + b) (i + j) := by
  refine ⟨by rw [cw_add, h1.1, h2.1], fun l hl => ?_⟩
  by_cases hli : l < i
  · have := h1.2 l hli
    omega
  · obtain ⟨d, rfl⟩ := Nat.le.dest (show i ≤ l by omega)
    rw [cw_add, h1.1]
    have := h2.2 d (by omega)
    omega

theorem least_le {f g : Nat → Bool} (h : ∀ t, f t = true → g t = true) {t n i j : Nat} (hf : Least f t n i) (hg : Least g t n j) : j ≤ i := by
  by_cases hlt : i < j
  · have h1 := hg.2 i hlt
    have h2 := cw_imp h t i
    have h3 := hf.1
    omega
  · omega

theorem least_shift {f : Nat → Bool} {p : Nat} (h : ∀ t, f (t + p) = f t) {t n k : Nat} (hl : Least f t n k) : Least f (t + p) n k :=
  ⟨by rw [cw_shift h]; exact hl.1, fun j hj => by rw [cw_shift h]; exact hl.2 j hj⟩

/-! ### There are enough working ticks -/

theorem div_mul_add {D d x : Nat} (hx : x < D) : (d * D + x) / D = d ∧ (d * D + x) % D = x := by
  have hD : 0 < D := by omega
  constructor
  · rw [Nat.mul_comm, Nat.mul_add_div hD, Nat.div_eq_of_lt hx]
    omega
  · rw [Nat.mul_comm, Nat.mul_add_mod, Nat.mod_eq_of_lt hx]

theorem wk_at {D F T W d x : Nat} {hs : List Nat} (hx : x < D) : wk D F T W hs (d * D + x) = (decide (F ≤ x) && decide (x < T) && decide (W / 2 ^ (d % 7) % 2 = 1) && decide (d ∉ hs)) := by
  obtain ⟨h1, h2⟩ := div_mul_add (D := D) (d := d) hx
  unfold wk
  rw [h1, h2]

/-- In eight days behind the holidays there is a working tick. -/
theorem some_tick {D F T W b : Nat} {hs : List Nat} (hF : F < T) (hT : T ≤ D) (hb : b < 7) (hW : W / 2 ^ b % 2 = 1) (hh : ∀ h ∈ hs, h < 12) (s : Nat) (hs0 : 12 * D ≤ s) : 1 ≤ cw (wk D F T W hs) s (8 * D) := by
  have hD : 0 < D := by omega
  have hq : 12 ≤ s / D := (Nat.le_div_iff_mul_le hD).2 hs0
  obtain ⟨i, hi0, hi7, hib⟩ : ∃ i, 1 ≤ i ∧ i ≤ 7 ∧ (s / D + i) % 7 = b := by
    refine ⟨(b + 7 - (s / D) % 7 + 6) % 7 + 1, by omega, by omega, by omega⟩
  have hdm := Nat.div_add_mod s D
  have hml := Nat.mod_lt s hD
  have hx : wk D F T W hs ((s / D + i) * D + F) = true := by
    rw [wk_at (by omega), hib]
    have hn : s / D + i ∉ hs := fun hm => by have := hh _ hm; omega
    simp [hF, hW, hn]
  have e1 : (s / D + i) * D = D * (s / D) + i * D := by rw [Nat.add_mul, Nat.mul_comm]
  have e2 : i * D ≤ 7 * D := Nat.mul_le_mul_right _ hi7
  have e3 : 1 * D ≤ i * D := Nat.mul_le_mul_right _ hi0
  obtain ⟨k, hk⟩ : ∃ k, (s / D + i) * D + F = s + k := ⟨(s / D + i) * D + F - s, by omega⟩
  have hk8 : k + 1 ≤ 8 * D := by omega
  have hc : 1 ≤ cw (wk D F T W hs) s (k + 1) := by
    simp only [cw]
    rw [← hk, hx]
    simp
  exact Nat.le_trans hc (cw_mono _ _ hk8)

theorem many_ticks {D F T W b : Nat} {hs : List Nat} (hF : F < T) (hT : T ≤ D) (hb : b < 7) (hW : W / 2 ^ b % 2 = 1) (hh : ∀ h ∈ hs, h < 12) (s : Nat) (hs0 : 12 * D ≤ s) : ∀ n, n ≤ cw (wk D F T W hs) s (8 * D * n)
  | 0 => by omega
  | n + 1 => by
    have ih := many_ticks hF hT hb hW hh s hs0 n
    rw [Nat.mul_succ, cw_add]
    have := some_tick hF hT hb hW hh (s + 8 * D * n) (by omega)
    omega

/-- What the maker's calendars keep. -/
structure Good (D F T W : Nat) (hs : List Nat) : Prop where
  d : D ≤ 48
  f : F < T
  t : T ≤ D
  w : W < 128
  b : ∃ b, b < 7 ∧ W / 2 ^ b % 2 = 1
  h : ∀ h ∈ hs, h < 12

theorem exists_least {D F T W : Nat} {hs : List Nat} (g : Good D F T W hs) (t n : Nat) (hn : n ≤ 20) : ∃ k, k ≤ 9000 ∧ Least (wk D F T W hs) t n k := by
  obtain ⟨b, hb, hW⟩ := g.b
  have hd := g.d
  have h1 := many_ticks g.f g.t hb hW g.h (t + 12 * D) (by omega) n
  have h2 : n ≤ cw (wk D F T W hs) t (12 * D + 8 * D * n) := by
    rw [cw_add]
    omega
  obtain ⟨k, hk, hl⟩ := least_of _ h2
  have h3 : 8 * D * n ≤ 8 * 48 * 20 := Nat.mul_le_mul (Nat.mul_le_mul_left 8 hd) hn
  exact ⟨k, by omega, hl⟩

/-! ### Laws of the whole -/

theorem wk_sub {D F T W : Nat} {hs hs' : List Nat} (h : ∀ x ∈ hs', x ∈ hs) (t : Nat) : wk D F T W hs t = true → wk D F T W hs' t = true := by
  unfold wk
  simp only [Bool.and_eq_true, decide_eq_true_eq]
  rintro ⟨⟨⟨h1, h2⟩, h3⟩, h4⟩
  exact ⟨⟨⟨h1, h2⟩, h3⟩, fun hm => h4 (h _ hm)⟩

theorem wk_week {D F T W : Nat} (hD : 0 < D) (t : Nat) : wk D F T W [] (t + 7 * D) = wk D F T W [] t := by
  unfold wk
  have e1 : (t + 7 * D) / D = t / D + 7 := Nat.add_mul_div_right _ _ hD
  have e2 : (t + 7 * D) % D = t % D := by rw [Nat.add_mul_mod_self_right]
  rw [e1, e2, Nat.add_mod_right]
  simp

theorem wk_day {D F T W d x y : Nat} {hs : List Nat} (hT : T ≤ D) (hx : F ≤ x) (hx2 : x < T) (hy : F ≤ y) (hy2 : y < T) : wk D F T W hs (d * D + x) = wk D F T W hs (d * D + y) := by
  rw [wk_at (by omega), wk_at (by omega)]
  simp [hx, hx2, hy, hy2]

end Go.Proofs.Ytofagmljigbacaa.Cal
