import Derived.Test.YtgaliinjjonlmaaDtSm
import Derived.Laws.Concat
namespace Go.Proofs.Ytgaliinjjonlmaa.Dt
open Go.RowKit
open Go.Proofs.Ytgaliinjjonlmaa.Tp
set_option linter.unusedVariables false

theorem fmt_eq (os : List O) : ∀ n, n ≤ os.length → fmt os n = (os.take n).flatMap fmo
  | 0, _ => by simp [fmt]
  | n + 1, h => by
    have ih := fmt_eq os n (by omega)
    have e : os.take (n + 1) = os.take n ++ [os.getD n o0] := by
      rw [List.take_add_one, List.getD_eq_getElem?_getD, List.getElem?_eq_getElem (by omega)]
      rfl
    simp only [fmt]
    rw [ih, e, List.flatMap_append]
    simp

theorem fmt_all (os : List O) : fmt os os.length = os.flatMap fmo := by
  rw [fmt_eq os _ (Nat.le_refl _), List.take_of_length_le (Nat.le_refl _)]

theorem fmt_len (os : List O) (k : Nat) : ∀ n, (∀ j, j < n → (fmo (os.getD j o0)).length ≤ k) → (fmt os n).length ≤ k * n
  | 0, _ => by simp [fmt]
  | n + 1, h => by
    have ih := fmt_len os k n (fun j hj => h j (by omega))
    have h1 := h n (by omega)
    simp only [fmt, List.length_append]
    rw [Nat.mul_succ]
    omega

theorem fmo_byte {o : O} (h : ∀ x ∈ o.d, x ≤ 255) : ∀ x ∈ fmo o, x ≤ 255 := by
  intro x hx
  unfold fmo at hx
  split at hx <;> simp [num] at hx
  · omega
  · rcases hx with h1 | h1 | h1 | h1 | h1
    · omega
    · omega
    · omega
    · omega
    · exact h x h1

/-- What the maker's operations are, as numbers. -/
theorem fit_ok {w : World} {N : Nat} {p : O × Value} (h : Fit N p) (hb : By w p.2 p.1.d) (hN : N ≤ 60) : OkO N p.1 ∧ sml p.1 ∧ Ok2 p.1 ∧ (fmo p.1).length ≤ 100 := by
  have hok := vo_ok h.1 hb
  have hc := h.2
  refine ⟨hok, ?_⟩
  obtain ⟨⟨F, S, d⟩, v⟩ := p
  simp only at hok hc ⊢
  rcases hok with ⟨h1, h2, h3⟩ | ⟨h1, h2, h3, h4⟩
  · simp only at h1 h2 h3
    subst h1
    subst h2
    have e : cnt ⟨0, 0, d⟩ = d.length := if_neg (by simp)
    rw [e] at hc
    have ef : fmo ⟨0, 0, d⟩ = [0] ++ num d.length ++ d := if_neg (by simp)
    refine ⟨⟨by simp, by simp, by simp only; omega⟩, .inl ⟨rfl, rfl, h3, by simp only; omega⟩, ?_⟩
    rw [ef]
    simp [num]
    omega
  · simp only at h1 h2 h3 h4
    subst h2
    have ef : fmo ⟨F, S, []⟩ = [1] ++ num F ++ num S := if_pos h1
    refine ⟨⟨by simp only; omega, by simp only; omega, by simp⟩, .inr ⟨h1, by simp only; omega, by simp only; omega, rfl⟩, ?_⟩
    rw [ef]
    simp [num]

/-- What is read again fits as well. -/
theorem fit_again {w w2 : World} {N : Nat} {ps qs : List (O × Value)} (hm : qs.map (·.1) = ps.map (·.1)) (hf : ∀ p ∈ ps, Fit N p) (hb : ∀ p ∈ ps, By w p.2 p.1.d) (hn : ∀ p ∈ qs, 1 ≤ p.1.s → p.2 = .slice none 0 0) (hb2 : ∀ p ∈ qs, By w2 p.2 p.1.d) : ∀ p ∈ qs, Fit N p := by
  intro p hp
  have h1 : p.1 ∈ ps.map (·.1) := by
    rw [← hm]
    exact List.mem_map.2 ⟨p, hp, rfl⟩
  obtain ⟨q, hq, e⟩ := List.mem_map.1 h1
  have hok := vo_ok (hf q hq).1 (hb q hq)
  have hc := (hf q hq).2
  rw [e] at hok hc
  refine ⟨?_, hc⟩
  rcases hok with ⟨k1, k2, k3⟩ | ⟨k1, k2, k3, k4⟩
  · obtain ⟨A, c, e2⟩ := (hb2 p hp).form
    exact .inl ⟨k1, k2, A, _, c, e2, k3⟩
  · exact .inr ⟨k1, hn p hp k1, k3, k4⟩

end Go.Proofs.Ytgaliinjjonlmaa.Dt
