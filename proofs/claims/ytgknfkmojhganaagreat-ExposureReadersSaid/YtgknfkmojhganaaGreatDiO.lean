import Derived.Test.YtgknfkmojhganaaGreatDiN
namespace Go.Proofs.YtgknfkmojhganaaGreat.Di
open Go.RowKit
open Go.Proofs.YtgknfkmojhganaaGreat.Tp
set_option linter.unusedVariables false

theorem zinfo64 : (Tryz.prog.info? 96).map (fun i => (i.zero, i.size, i.bytes)) = some (some (.slice none 0 0), 1, 24) := by kernel_rfl
theorem zinfo4 : (Tryz.prog.info? 4).map (fun i => (i.zero, i.size, i.bytes)) = some (some (.bool false), 1, 1) := by kernel_rfl
theorem rl_const {α : Type} (z : α) (n : Nat) : rl (fun _ => z) n = List.replicate n z := by
  unfold rl
  refine List.ext_getElem? fun i => ?_
  rw [List.getElem?_map, List.getElem?_replicate]
  by_cases h : i < n
  · rw [List.getElem?_range h, if_pos h]; rfl
  · rw [List.getElem?_eq_none (by simpa using h), if_neg h]; rfl
theorem made_cells (z : Value) (n : Nat) : (madeCells #[z] (n * 1)).toList = rl (fun _ => z) n := by
  rw [Nat.mul_one, toList_madeCells_one, rl_const]

/-- The matrix under way: the first k rows are made, all false. -/
structure MP (w : World) (B n G k : Nat) (g : Nat → Nat) : Prop where
  out : w.ownsRow B 96 1 (.slice (some ⟨G, 0, none⟩) n n) n (rl (fun p => if p < k then Value.slice (some ⟨g p, 0, none⟩) n n else .slice none 0 0) n)
  row : ∀ p, p < k → w.ownsRow B 4 1 (.slice (some ⟨g p, 0, none⟩) n n) n (rl (fun _ => Value.bool false) n)
  inj : ∀ p q, p < k → q < k → g p = g q → p = q
theorem MP.done {w : World} {B n G : Nat} {g : Nat → Nat} (h : MP w B n G n g) : MO w B n G g (fun _ _ => false) := by
  refine ⟨?_, h.row, h.inj⟩
  have e : rl (fun p => if p < n then Value.slice (some ⟨g p, 0, none⟩) n n else .slice none 0 0) n = rl (fun p => Value.slice (some ⟨g p, 0, none⟩) n n) n := by
    refine List.ext_getElem? fun i => ?_
    by_cases hi : i < n
    · rw [rl_at _ _ _ hi, rl_at _ _ _ hi, if_pos hi]
    · rw [List.getElem?_eq_none (by rw [rl_len]; omega), List.getElem?_eq_none (by rw [rl_len]; omega)]
  rw [← e]
  exact h.out
/-- One row more: its block is new. -/
theorem MP.next {w w2 : World} {B n G k : Nat} {g : Nat → Nat} (h : MP w B n G k g) (hk : k < n) (hg2 : w.grownBy w2 none) (hr : w2.ownsRow B 4 1 (.slice (some ⟨w.heap.size, 0, none⟩) n n) n (rl (fun _ => Value.bool false) n)) :
    MP (w2.setCell ⟨G, k, none⟩ (.slice (some ⟨w.heap.size, 0, none⟩) n n)) B n G (k + 1) (fun p => if p = k then w.heap.size else g p) := by
  have hout : w2.ownsRow B 96 1 (.slice (some ⟨G, 0, none⟩) n n) n (rl (fun p => if p < k then Value.slice (some ⟨g p, 0, none⟩) n n else .slice none 0 0) n) := kept_ne h.out hg2 (fun k e => by cases e)
  have hrow : ∀ p, p < k → w2.ownsRow B 4 1 (.slice (some ⟨g p, 0, none⟩) n n) n (rl (fun _ => Value.bool false) n) := fun p hp => kept_ne (h.row p hp) hg2 (fun k e => by cases e)
  obtain ⟨-, -, h1, hg⟩ := own_put (u := .slice (some ⟨w.heap.size, 0, none⟩) n n) hout hk
  have hlt : ∀ p, p < k → g p < w.heap.size := fun p hp => ((h.row p hp).lt (g p) rfl).2
  refine ⟨?_, fun p hp => ?_, fun p q hp hq e => ?_⟩
  · have e : rl (fun p => if p < k + 1 then Value.slice (some ⟨if p = k then w.heap.size else g p, 0, none⟩) n n else .slice none 0 0) n = (rl (fun p => if p < k then Value.slice (some ⟨g p, 0, none⟩) n n else .slice none 0 0) n).set k (.slice (some ⟨w.heap.size, 0, none⟩) n n) := by
      rw [rl_set _ _ _ _ hk]
      congr 1
      funext p
      by_cases e : p = k
      · simp [e]
      · by_cases e2 : p < k
        · simp [e, e2, show p < k + 1 by omega]
        · simp [e, e2, show ¬ p < k + 1 by omega]
    rw [e]
    exact h1
  · by_cases e : p = k
    · subst e
      simp only [if_true]
      exact kept_ne hr hg (fun j e1 e2 => by
        cases e1
        exact own_ne hr hout (by decide) w.heap.size rfl (by
          have e4 : some w.heap.size = some G := e2
          rw [Option.some.inj e4]; rfl))
    · simp only [if_neg e]
      exact kept_ne (hrow p (by omega)) hg (fun j e1 e2 => by
        cases e1
        exact own_ne (hrow p (by omega)) hout (by decide) (g p) rfl (by
          have e4 : some (g p) = some G := e2
          rw [Option.some.inj e4]; rfl))
  · by_cases e1 : p = k <;> by_cases e2 : q = k
    · omega
    · simp only [if_pos e1, if_neg e2] at e
      have := hlt q (by omega); omega
    · simp only [if_neg e1, if_pos e2] at e
      have := hlt p (by omega); omega
    · simp only [if_neg e1, if_neg e2] at e
      exact h.inj p q (by omega) (by omega) e

end Go.Proofs.YtgknfkmojhganaaGreat.Di
