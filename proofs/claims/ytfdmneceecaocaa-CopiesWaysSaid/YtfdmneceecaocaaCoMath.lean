import Derived.Test.YtfdmneceecaocaaAcMath
namespace Go.Proofs.Ytfdmneceecaocaa.Di
set_option linter.unusedVariables false

/-- What an event does to the ways of a content. -/
def wst (k : Nat) (x : Ac) (c : Int) (F : Int → List Nat) (q : Int) : List Nat :=
  if x.k = 5 then (if x.c = c ∧ q = x.p then [k] else F q)
  else if x.k = 6 then (if x.c = c ∧ q = x.p then [] else F q)
  else if x.k = 7 then (if q = x.p ∧ F x.f ≠ [] ∧ F q = [] then F x.f ++ [k] else F q)
  else F q
/-- The ways of a content, behind the first k events, at a time. -/
def wy (l : List Ac) (c t : Int) : Nat → Int → List Nat
  | 0 => fun _ => []
  | k + 1 => if t < (ag l k).t then wy l c t k else wst k (ag l k) c (wy l c t k)
def wyA (l : List Ac) (c t : Int) (q : Int) : List Nat := wy l c t l.length q
theorem wst_len {k : Nat} {x : Ac} {c : Int} {F : Int → List Nat} (h : ∀ q, (F q).length ≤ k) (q : Int) : (wst k x c F q).length ≤ k + 1 := by
  unfold wst
  have h1 := h q
  have h2 := h x.f
  split <;> (try split) <;> (try split) <;> (try split) <;> simp <;> omega
theorem wy_len (l : List Ac) (c t : Int) : ∀ k q, (wy l c t k q).length ≤ k
  | 0, _ => Nat.le_refl _
  | k + 1, q => by
    have ih := wy_len l c t k
    rw [wy]
    split
    · exact Nat.le_succ_of_le (ih q)
    · exact wst_len ih q
theorem wy_skip (l : List Ac) (c t : Int) (m : Nat) : ∀ d, (∀ j, m ≤ j → j < m + d → t < (ag l j).t) → wy l c t (m + d) = wy l c t m
  | 0, _ => rfl
  | d + 1, h => by
    rw [show m + (d + 1) = m + d + 1 by omega, wy, if_pos (h (m + d) (by omega) (by omega))]
    exact wy_skip l c t m d (fun j h1 h2 => h j h1 (by omega))
theorem Eok.wy_end {a : Es} (h : Eok a) (c t : Int) {k : Nat} (hk : k < a.e.length) (ht : t < (ag a.e k).t) : wy a.e c t a.e.length = wy a.e c t k := by
  obtain ⟨d, hd⟩ : ∃ d, a.e.length = k + d := ⟨a.e.length - k, by omega⟩
  rw [hd]
  refine wy_skip a.e c t k d fun j h1 h2 => ?_
  obtain ⟨s, rfl⟩ : ∃ s, j = k + s := ⟨j - k, by omega⟩
  exact Int.lt_of_lt_of_le ht (h.mono s k (by omega))
theorem wy_same {l l' : List Ac} (c t : Int) : ∀ k, (∀ j, j < k → ag l j = ag l' j) → wy l c t k = wy l' c t k
  | 0, _ => rfl
  | k + 1, h => by rw [wy, wy, wy_same c t k (fun j hj => h j (by omega)), h k (by omega)]
theorem wyA_snoc (l : List Ac) (x : Ac) (c t q : Int) : wyA (l ++ [x]) c t q = if t < x.t then wyA l c t q else wst l.length x c (wyA l c t) q := by
  unfold wyA
  rw [List.length_append, List.length_singleton, wy, ag_end, wy_same c t l.length (l' := l) (fun j hj => ag_left hj)]
  split <;> rfl

end Go.Proofs.Ytfdmneceecaocaa.Di
