import Derived.Test.YtfdmneceecaocaaCoMath
namespace Go.Proofs.Ytfdmneceecaocaa.Di
set_option linter.unusedVariables false

/-- A content that is never put is nowhere. -/
theorem wy_never {l : List Ac} {c t : Int} : ∀ {k : Nat}, (∀ j, j < k → ¬ ((ag l j).k = 5 ∧ (ag l j).c = c)) → ∀ q, wy l c t k q = []
  | 0, _, _ => rfl
  | k + 1, h, q => by
    have ih := wy_never (l := l) (c := c) (t := t) (k := k) (fun j hj => h j (by omega))
    have hk := h k (by omega)
    rw [wy]
    split
    · exact ih q
    · unfold wst
      rw [ih q, ih (ag l k).f]
      split
      · rename_i h5
        rw [if_neg (fun h => hk ⟨h5, h.1⟩)]
      · split
        · split <;> rfl
        · split
          · rw [if_neg (fun h => h.2.1 rfl)]
          · rfl
theorem wy_later (l : List Ac) (c s t : Int) (hst : s ≤ t) : ∀ k, (∀ j, j < k → (ag l j).t ≤ s) → wy l c t k = wy l c s k
  | 0, _ => rfl
  | k + 1, h => by
    have hk := h k (by omega)
    rw [wy, wy, if_neg (by omega), if_neg (by omega), wy_later l c s t hst k (fun j hj => h j (by omega))]
/-- What happens later changes nothing. -/
theorem cut_wy {a : Es} {t : Int} {m : Nat} (hm : m ≤ a.e.length) (h : ∀ j, j < a.e.length → ((ag a.e j).t ≤ t ↔ j < m)) (c : Int) : wyA (a.e.take m) c t = wyA a.e c t := by
  funext q
  unfold wyA
  have hl : (a.e.take m).length = m := by rw [List.length_take]; omega
  rw [hl, wy_same c t m (l := a.e.take m) (l' := a.e) (fun j hj => ag_take hj)]
  obtain ⟨d, hd⟩ : ∃ d, a.e.length = m + d := ⟨a.e.length - m, by omega⟩
  rw [hd, wy_skip a.e c t m d (fun j h1 h2 => by have := (h j (by omega)).1; omega)]
theorem cut_wy_later {a : Es} {s t : Int} {m : Nat} (hm : m ≤ a.e.length) (h : ∀ j, j < a.e.length → ((ag a.e j).t ≤ s ↔ j < m)) (hst : s ≤ t) (c : Int) : wyA (a.e.take m) c t = wyA (a.e.take m) c s := by
  have hl : (a.e.take m).length = m := by rw [List.length_take]; omega
  funext q
  unfold wyA
  rw [hl, wy_later (a.e.take m) c s t hst m (fun j hj => by rw [ag_take hj]; exact (h j (by omega)).2 hj)]

end Go.Proofs.Ytfdmneceecaocaa.Di
