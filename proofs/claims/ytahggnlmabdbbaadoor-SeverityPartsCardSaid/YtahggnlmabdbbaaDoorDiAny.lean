import Derived.Lib.Hide
namespace Go.Proofs.YtahggnlmabdbbaaDoor.Di
set_option linter.unusedVariables false

/-- The numbers below n for which p holds. -/
def idx (p : Nat → Bool) : Nat → List Nat
  | 0 => []
  | n + 1 => if p n then idx p n ++ [n] else idx p n
def cnt (p : Nat → Bool) : Nat → Nat
  | 0 => 0
  | n + 1 => cnt p n + if p n then 1 else 0
def anyB (p : Nat → Bool) : Nat → Bool
  | 0 => false
  | n + 1 => anyB p n || p n

theorem any_iff (p : Nat → Bool) : ∀ n, anyB p n = true ↔ ∃ i, i < n ∧ p i = true
  | 0 => by simp [anyB]
  | n + 1 => by
    rw [anyB, Bool.or_eq_true, any_iff p n]
    constructor
    · rintro (⟨i, h1, h2⟩ | h)
      · exact ⟨i, by omega, h2⟩
      · exact ⟨n, by omega, h⟩
    · rintro ⟨i, h1, h2⟩
      by_cases e : i = n
      · exact .inr (by rw [← e]; exact h2)
      · exact .inl ⟨i, by omega, h2⟩
theorem any_no {p : Nat → Bool} {n : Nat} (h : ∀ i, i < n → p i = false) : anyB p n = false := by
  cases ha : anyB p n with
  | false => rfl
  | true =>
    obtain ⟨i, h1, h2⟩ := (any_iff p n).1 ha
    rw [h i h1] at h2
    cases h2
theorem no_any {p : Nat → Bool} {n : Nat} (h : anyB p n = false) (i : Nat) (hi : i < n) : p i = false := by
  cases hp : p i with
  | false => rfl
  | true =>
    rw [(any_iff p n).2 ⟨i, hi, hp⟩] at h
    cases h

theorem idx_len (p : Nat → Bool) : ∀ n, (idx p n).length = cnt p n
  | 0 => rfl
  | n + 1 => by
    rw [idx, cnt]
    split
    · rw [List.length_append, idx_len p n]; rfl
    · rw [idx_len p n]; rfl
theorem idx_mem (p : Nat → Bool) (j : Nat) : ∀ n, j ∈ idx p n ↔ j < n ∧ p j = true
  | 0 => by simp [idx]
  | n + 1 => by
    rw [idx]
    split
    · rename_i h
      rw [List.mem_append, idx_mem p j n]
      constructor
      · rintro (⟨h1, h2⟩ | h1)
        · exact ⟨by omega, h2⟩
        · rw [List.mem_singleton] at h1; subst h1; exact ⟨by omega, h⟩
      · rintro ⟨h1, h2⟩
        by_cases e : j = n
        · exact .inr (by rw [e]; exact List.mem_singleton.2 rfl)
        · exact .inl ⟨by omega, h2⟩
    · rename_i h
      rw [idx_mem p j n]
      constructor
      · rintro ⟨h1, h2⟩
        exact ⟨by omega, h2⟩
      · rintro ⟨h1, h2⟩
        refine ⟨?_, h2⟩
        by_cases e : j = n
        · rw [e] at h2; exact absurd h2 h
        · omega
theorem cnt_le (p : Nat → Bool) : ∀ n, cnt p n ≤ n
  | 0 => Nat.le_refl _
  | n + 1 => by
    have := cnt_le p n
    rw [cnt]
    split <;> omega
theorem cnt_mono {p q : Nat → Bool} : ∀ n, (∀ j, j < n → p j = true → q j = true) → cnt p n ≤ cnt q n
  | 0, _ => Nat.le_refl _
  | n + 1, h => by
    have ih := cnt_mono n (fun j hj => h j (by omega))
    rw [cnt, cnt]
    by_cases hp : p n = true
    · rw [if_pos hp, if_pos (h n (by omega) hp)]; omega
    · rw [if_neg hp]; omega
theorem cnt_congr {p q : Nat → Bool} : ∀ n, (∀ j, j < n → p j = q j) → cnt p n = cnt q n
  | 0, _ => rfl
  | n + 1, h => by
    rw [cnt, cnt, cnt_congr n (fun j hj => h j (by omega)), h n (by omega)]
theorem cnt_pos {p : Nat → Bool} : ∀ n, 0 < cnt p n → ∃ j, j < n ∧ p j = true
  | 0, h => absurd h (by simp [cnt])
  | n + 1, h => by
    by_cases hp : p n = true
    · exact ⟨n, by omega, hp⟩
    · rw [cnt, if_neg hp] at h
      obtain ⟨j, h1, h2⟩ := cnt_pos n h
      exact ⟨j, by omega, h2⟩
theorem max_of {p : Nat → Bool} (f : Nat → Nat) : ∀ n, (∃ j, j < n ∧ p j = true) → ∃ m, m < n ∧ p m = true ∧ ∀ j, j < n → p j = true → f j ≤ f m
  | 0, h => by obtain ⟨j, h, _⟩ := h; omega
  | n + 1, h => by
    by_cases h0 : ∃ j, j < n ∧ p j = true
    · obtain ⟨m, h1, h2, h3⟩ := max_of f n h0
      by_cases hp : p n = true ∧ f m < f n
      · refine ⟨n, by omega, hp.1, fun j hj h4 => ?_⟩
        by_cases e : j = n
        · rw [e]; exact Nat.le_refl _
        · have := h3 j (by omega) h4; omega
      · refine ⟨m, by omega, h2, fun j hj h4 => ?_⟩
        by_cases e : j = n
        · subst e
          by_cases h5 : f m < f j
          · exact absurd ⟨h4, h5⟩ hp
          · omega
        · exact h3 j (by omega) h4
    · obtain ⟨j, h1, h2⟩ := h
      have e : j = n := by
        by_cases e : j = n
        · exact e
        · exact absurd ⟨j, by omega, h2⟩ h0
      subst e
      refine ⟨j, by omega, h2, fun k hk h3 => ?_⟩
      by_cases e : k = j
      · rw [e]; exact Nat.le_refl _
      · exact absurd ⟨k, by omega, h3⟩ h0

end Go.Proofs.YtahggnlmabdbbaaDoor.Di
