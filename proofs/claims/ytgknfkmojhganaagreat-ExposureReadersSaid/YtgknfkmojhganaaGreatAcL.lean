import Derived.Test.YtgknfkmojhganaaGreatAcC
namespace Go.Proofs.YtgknfkmojhganaaGreat.Di
open Go.RowKit
open Go.Proofs.YtgknfkmojhganaaGreat.Tp
set_option linter.unusedVariables false

/-- Does the look go on behind an event? -/
def psP (l : List Ac) (p t : Int) (j : Nat) : Prop := t < (ag l j).t ∨ (ag l j).p ≠ p ∨ ((ag l j).k ≠ 4 ∧ ¬ ((ag l j).k = 3 ∧ t < (ag l j).u))
theorem lk_pass (l : List Ac) (p t : Int) (m : Nat) : ∀ d, (∀ j, m ≤ j → j < m + d → psP l p t j) → lk l p t (m + d) = lk l p t m
  | 0, _ => rfl
  | d + 1, h => by
    have h0 := h (m + d) (by omega) (by omega)
    have ih := lk_pass l p t m d (fun j h1 h2 => h j h1 (by omega))
    rw [show m + (d + 1) = m + d + 1 by omega, lk]
    unfold psP at h0
    split
    · exact ih
    · rename_i c1
      split
      · rename_i c2; exact absurd c2 (by omega)
      · split
        · rename_i c3; omega
        · exact ih
theorem lk_all {l : List Ac} {p t : Int} (h : ∀ j, j < l.length → psP l p t j) : lkA l p t = none := by
  have := lk_pass l p t 0 l.length (fun j _ h2 => h j (by omega))
  rw [Nat.zero_add] at this
  exact this
theorem lk_hit4 {l : List Ac} {p t : Int} {k : Nat} (hk : k < l.length) (h : ∀ j, k < j → j < l.length → psP l p t j) (h1 : ¬ t < (ag l k).t) (h2 : (ag l k).p = p) (h3 : (ag l k).k = 4) : lkA l p t = none := by
  unfold lkA
  obtain ⟨d, hd⟩ : ∃ d, l.length = (k + 1) + d := ⟨l.length - (k + 1), by omega⟩
  rw [hd, lk_pass l p t (k + 1) d (fun j h1 h2 => h j (by omega) (by omega)), lk, if_neg (by omega), if_pos h3]
theorem lk_hit3 {l : List Ac} {p t : Int} {k : Nat} (hk : k < l.length) (h : ∀ j, k < j → j < l.length → psP l p t j) (h1 : ¬ t < (ag l k).t) (h2 : (ag l k).p = p) (h3 : (ag l k).k = 3) (h4 : t < (ag l k).u) : lkA l p t = some k := by
  unfold lkA
  obtain ⟨d, hd⟩ : ∃ d, l.length = (k + 1) + d := ⟨l.length - (k + 1), by omega⟩
  rw [hd, lk_pass l p t (k + 1) d (fun j h1 h2 => h j (by omega) (by omega)), lk, if_neg (by omega), if_neg (by omega), if_pos ⟨h3, h4⟩]
theorem boxes5 (w : World) (X1 X2 X3 X4 X5 : Obj) :
    let W := ((((w.alloc X1).alloc X2).alloc X3).alloc X4).alloc X5
    W.heap[w.heap.size]? = some X1 ∧ W.heap[w.heap.size + 1]? = some X2 ∧ W.heap[w.heap.size + 2]? = some X3 ∧ W.heap[w.heap.size + 3]? = some X4 ∧ W.heap[w.heap.size + 4]? = some X5 ∧ Below w.heap.size w W ∧ W.heap.size = w.heap.size + 5 := by
  obtain ⟨-, b0, b1, b2, bb⟩ := boxes3 w X1 X2 X3
  have z3 : (((w.alloc X1).alloc X2).alloc X3).heap.size = w.heap.size + 3 := by simp
  have z4 : ((((w.alloc X1).alloc X2).alloc X3).alloc X4).heap.size = w.heap.size + 4 := by simp
  have a4 := heap_alloc_new (((w.alloc X1).alloc X2).alloc X3) X4
  have a5 := heap_alloc_new ((((w.alloc X1).alloc X2).alloc X3).alloc X4) X5
  rw [z3] at a4
  rw [z4] at a5
  refine ⟨?_, ?_, ?_, ?_, a5, ?_, by simp⟩
  · exact (heap_alloc_old _ _ (by simp; omega)).trans ((heap_alloc_old _ _ (by simp; omega)).trans b0)
  · exact (heap_alloc_old _ _ (by simp)).trans ((heap_alloc_old _ _ (by simp)).trans b1)
  · exact (heap_alloc_old _ _ (by simp)).trans ((heap_alloc_old _ _ (by simp)).trans b2)
  · exact (heap_alloc_old _ _ (by simp)).trans a4
  · exact (bb.trans ((box_below _ X4).mono (by simp; omega))).trans ((box_below _ X5).mono (by simp; omega))


end Go.Proofs.YtgknfkmojhganaaGreat.Di
