import Derived.Test.YtfdmneceecaocaaCoP
import Derived.Test.YtfdmneceecaocaaCoQ
namespace Go.Proofs.Ytfdmneceecaocaa.Di
set_option linter.unusedVariables false

theorem sI_none {q : Nat → Bool} (h : ∀ i, q i = false) (L0 : List Sy) (p : Int) (T : List Nat) : ∀ i, sI L0 p q T i = L0
  | 0 => rfl
  | i + 1 => by
    have hb : bf q i = false := by unfold bf; split <;> simp [h]
    rw [sI_succ, h i, hb, sI_none h L0 p T i]
    rfl
theorem sA_none {q : Nat → Nat → Bool} (h : ∀ p i, q p i = false) (T : List Nat) : ∀ p, sA q T p = []
  | 0 => rfl
  | p + 1 => by rw [sA, sI_none (h p), sA_none h T p]
/-- A content that is never put is nowhere. -/
theorem wB_never {a : Es} {c : Int} (h : ∀ j, j < a.e.length → ¬ ((ag a.e j).k = 5 ∧ (ag a.e j).c = c)) (t : Int) (p : Nat) : wB a c t p = false :=
  wB_zero (by unfold wyA; rw [wy_never h]; rfl)
theorem stL_never {a : Es} {c : Int} (h : ∀ j, j < a.e.length → ¬ ((ag a.e j).k = 5 ∧ (ag a.e j).c = c)) (n : Nat) : stL a c n = [] :=
  sA_none (fun p i => wB_never h _ p) _ n
/-- A cut has the same places. -/
theorem wB_cut {a : Es} {t : Int} {m : Nat} (hm : m ≤ a.e.length) (h : ∀ j, j < a.e.length → ((ag a.e j).t ≤ t ↔ j < m)) (c : Int) : wB ⟨a.n, a.e.take m⟩ c t = wB a c t := by
  funext p
  unfold wB
  rw [cut_wy hm h]
theorem wB_cut_later {a : Es} {s t : Int} {m : Nat} (hm : m ≤ a.e.length) (h : ∀ j, j < a.e.length → ((ag a.e j).t ≤ s ↔ j < m)) (hst : s ≤ t) (c : Int) : wB ⟨a.n, a.e.take m⟩ c t = wB ⟨a.n, a.e.take m⟩ c s := by
  funext p
  unfold wB
  rw [cut_wy_later hm h hst]

end Go.Proofs.Ytfdmneceecaocaa.Di
