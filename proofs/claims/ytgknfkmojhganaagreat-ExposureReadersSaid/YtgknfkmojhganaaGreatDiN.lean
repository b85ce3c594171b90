import Derived.Test.YtgknfkmojhganaaGreatDiM
namespace Go.Proofs.YtgknfkmojhganaaGreat.Di
open Go.RowKit
open Go.Proofs.YtgknfkmojhganaaGreat.Tp
set_option linter.unusedVariables false

/-- The list of f's values below n. -/
def rl {α : Type} (f : Nat → α) (n : Nat) : List α := (List.range n).map f
theorem rl_len {α : Type} (f : Nat → α) (n : Nat) : (rl f n).length = n := by simp [rl]
theorem rl_at {α : Type} (f : Nat → α) (n i : Nat) (h : i < n) : (rl f n)[i]? = some (f i) := by
  unfold rl
  rw [List.getElem?_map, List.getElem?_range h]
  rfl
theorem rl_set {α : Type} (f : Nat → α) (n k : Nat) (v : α) (h : k < n) : (rl f n).set k v = rl (fun j => if j = k then v else f j) n := by
  refine List.ext_getElem? fun i => ?_
  rw [List.getElem?_set, rl_len]
  by_cases hi : i < n
  · rw [rl_at _ _ _ hi, rl_at _ _ _ hi]
    by_cases e : k = i
    · subst e; simp [hi]
    · rw [if_neg e]
      simp only [if_neg (Ne.symm e)]
  · have e1 : (rl f n)[i]? = none := List.getElem?_eq_none (by rw [rl_len]; omega)
    have e2 : (rl (fun j => if j = k then v else f j) n)[i]? = none := List.getElem?_eq_none (by rw [rl_len]; omega)
    rw [e1, e2, if_neg (by omega)]

/-- A matrix that is the call's own: the outer row at G, the row of p at g p, all apart. -/
structure MO (w : World) (B n G : Nat) (g : Nat → Nat) (M : Nat → Nat → Bool) : Prop where
  out : w.ownsRow B 96 1 (.slice (some ⟨G, 0, none⟩) n n) n (rl (fun p => Value.slice (some ⟨g p, 0, none⟩) n n) n)
  row : ∀ p, p < n → w.ownsRow B 4 1 (.slice (some ⟨g p, 0, none⟩) n n) n (rl (fun q => Value.bool (M p q)) n)
  inj : ∀ p q, p < n → q < n → g p = g q → p = q
theorem MO.below {w w' : World} {B n G : Nat} {g : Nat → Nat} {M : Nat → Nat → Bool} (h : MO w B n G g M) (hb : Below w.heap.size w w') : MO w' B n G g M :=
  ⟨own_below h.out hb, fun p hp => own_below (h.row p hp) hb, h.inj⟩
theorem MO.apart {w : World} {B n G : Nat} {g : Nat → Nat} {M : Nat → Nat → Bool} (h : MO w B n G g M) {p : Nat} (hp : p < n) : g p ≠ G :=
  fun e => own_ne (h.row p hp) h.out (by decide) (g p) rfl (by rw [e]; rfl)
/-- A store into a cell of the matrix. -/
theorem MO.put {w : World} {B n G : Nat} {g : Nat → Nat} {M : Nat → Nat → Bool} (h : MO w B n G g M) {p q : Nat} (hp : p < n) (hq : q < n) (b : Bool) :
    MO (w.setCell ⟨g p, q, none⟩ (.bool b)) B n G g (fun a c => if a = p ∧ c = q then b else M a c) := by
  obtain ⟨-, -, h1, hg⟩ := own_put (u := .bool b) (h.row p hp) hq
  refine ⟨kept_ne h.out hg (fun k e1 e2 => ?_), fun a ha => ?_, h.inj⟩
  · cases e1
    have e4 : some G = some (g p) := e2
    exact h.apart hp (Option.some.inj e4).symm
  · by_cases e : a = p
    · subst e
      have e2 : rl (fun c => Value.bool (if a = a ∧ c = q then b else M a c)) n = (rl (fun c => Value.bool (M a c)) n).set q (.bool b) := by
        rw [rl_set _ _ _ _ hq]
        congr 1
        funext c
        by_cases hc : c = q
        · simp [hc]
        · simp [hc]
      rw [e2]
      exact h1
    · have e2 : (fun c => Value.bool (if a = p ∧ c = q then b else M a c)) = fun c => Value.bool (M a c) := by
        funext c
        rw [if_neg (fun hh => e hh.1)]
      rw [e2]
      exact kept_ne (h.row a ha) hg (fun k e1 e3 => by
        cases e1
        have e4 : some (g a) = some (g p) := e3
        exact e (h.inj _ _ ha hp (Option.some.inj e4)))
theorem MO.mm {w : World} {B n G : Nat} {g : Nat → Nat} {M : Nat → Nat → Bool} (h : MO w B n G g M) : MM w B n (some ⟨G, 0, none⟩) M := by
  refine ⟨fun p hp => ?_⟩
  have r0 := row_of_own h.out
  have r1 := row_of_own (h.row p hp)
  obtain ⟨b0, o0, e0, hB0, hl0, hc0⟩ := r0.mem (by omega)
  obtain ⟨b1, o1, e1, hB1, hl1, hc1⟩ := r1.mem (by omega)
  cases e0
  cases e1
  refine ⟨G, 0, g p, rfl, hB0, hl0, hB1, hl1, hc0 _ _ (rl_at _ _ _ hp), fun q hq => ?_⟩
  have := hc1 _ _ (rl_at (fun q => Value.bool (M p q)) n q hq)
  rwa [Nat.zero_add] at this

end Go.Proofs.YtgknfkmojhganaaGreat.Di
