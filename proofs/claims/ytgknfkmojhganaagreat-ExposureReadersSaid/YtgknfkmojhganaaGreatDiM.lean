import Derived.Test.YtgknfkmojhganaaGreatDiK
namespace Go.Proofs.YtgknfkmojhganaaGreat.Di
open Go.RowKit
open Go.Proofs.YtgknfkmojhganaaGreat.Tp
set_option linter.unusedVariables false

/-- A store into an own row of one-cell elements: the cell is there, and not frozen; behind it the row is the list with that element. -/
theorem own_put {W : World} {B n c G p : Nat} {e : TypeId} {u : Value} {xs : List Value} (h : W.ownsRow B e 1 (.slice (some ⟨G, 0, none⟩) n c) n xs) (hp : p < n) :
    W.cell? ⟨G, p, none⟩ = xs[p]? ∧ W.frozen? ⟨G, p, none⟩ = false ∧ (W.setCell ⟨G, p, none⟩ u).ownsRow B e 1 (.slice (some ⟨G, 0, none⟩) n c) n (xs.set p u) ∧ W.grownBy (W.setCell ⟨G, p, none⟩ u) (some G) := by
  rcases h.2 with ⟨hv, _⟩ | ⟨g', cap, cur, hv, hB, hh, h1, h2, h3, ht⟩
  · cases hv
  · cases hv
    have hl := h.1
    have hcl : cur.toList.length = c * 1 := by simpa using h3
    have hpc : p < cur.size := by omega
    refine ⟨?_, frozen_of_row _ _ _ _ _ hh, ⟨by rw [List.length_set]; exact hl, .inr ⟨G, c, cur.setIfInBounds p u, rfl, hB, ?_, h1, h2, by simpa using h3, ?_⟩⟩, gb_set _ _ _ _⟩
    · rw [cell_of_row _ _ _ _ _ _ hh, ← ht, List.getElem?_take_of_lt (by omega)]
      simp
    · rw [setCell_eq_setRow _ _ _ _ _ _ _ hh]
      exact setRow_heap _ _ _ _ _ _ hh
    · rw [← ht, Array.toList_setIfInBounds, List.take_set]

end Go.Proofs.YtgknfkmojhganaaGreat.Di
