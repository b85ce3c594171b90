import Derived.Test.YtgknfkmojhganaaGreatDiI
namespace Go.Proofs.YtgknfkmojhganaaGreat.Di
open Go.RowKit
open Go.Proofs.YtgknfkmojhganaaGreat.Tp
set_option linter.unusedVariables false

/-- A matrix in memory: an outer row, and a row of bools for each number. -/
structure MM (w : World) (B n : Nat) (A : Option Addr) (M : Nat → Nat → Bool) : Prop where
  row : ∀ p, p < n → ∃ G off g, A = some ⟨G, off, none⟩ ∧ B ≤ G ∧ G < w.heap.size ∧ B ≤ g ∧ g < w.heap.size ∧ w.cell? ⟨G, off + p, none⟩ = some (.slice (some ⟨g, 0, none⟩) n n) ∧ ∀ q, q < n → w.cell? ⟨g, q, none⟩ = some (.bool (M p q))
theorem MM.below {w w' : World} {B n : Nat} {A : Option Addr} {M : Nat → Nat → Bool} (h : MM w B n A M) (hb : Below w.heap.size w w') : MM w' B n A M := by
  refine ⟨fun p hp => ?_⟩
  obtain ⟨G, off, g, hA, h1, h2, h3, h4, h5, h6⟩ := h.row p hp
  exact ⟨G, off, g, hA, h1, Nat.lt_of_lt_of_le h2 hb.size, h3, Nat.lt_of_lt_of_le h4 hb.size, (hb.cell (p := ⟨G, _, none⟩) h2).trans h5, fun q hq => (hb.cell (p := ⟨g, _, none⟩) h4).trans (h6 q hq)⟩
theorem MM.base {w : World} {B B' n : Nat} {A : Option Addr} {M : Nat → Nat → Bool} (h : MM w B n A M) (hb : B' ≤ B) : MM w B' n A M := by
  refine ⟨fun p hp => ?_⟩
  obtain ⟨G, off, g, hA, h1, h2, h3, h4, h5, h6⟩ := h.row p hp
  exact ⟨G, off, g, hA, Nat.le_trans hb h1, h2, Nat.le_trans hb h3, h4, h5, h6⟩

end Go.Proofs.YtgknfkmojhganaaGreat.Di
