import Derived.Test.YtfdmneceecaocaaCoMath
import Derived.Test.YtfdmneceecaocaaAcJ
namespace Go.Proofs.Ytfdmneceecaocaa.Di
open Go.RowKit
open Go.Proofs.Ytfdmneceecaocaa.Tp
set_option linter.unusedVariables false

/-- A store into an own row of one-cell elements: the cell is there, and not frozen; behind it the row is the list with that element. -/
theorem own_put {W : World} {B n c G p : Nat} {e : TypeId} {u : Value} {xs : List Value} (h : W.ownsRow B e 1 (.slice (some ⟨G, 0, none⟩) n c) n xs) (hp : p < n) :
    W.cell? ⟨G, p, none⟩ = xs[p]? ∧ W.frozen? ⟨G, p, none⟩ = false ∧ (W.setCell ⟨G, p, none⟩ u).ownsRow B e 1 (.slice (some ⟨G, 0, none⟩) n c) n (xs.set p u) ∧ W.grownBy (W.setCell ⟨G, p, none⟩ u) (some G) := by
  rcases h.2 with ⟨hv, _⟩ | ⟨g', cap, cur, hv, hB, hh, h1, h2, h3, ht⟩
  · cases hv
  · cases hv
    have hl := h.1
    have hcl : cur.toList.length = c * 1 := by simpa using h3
    have hpc : p < cur.size := by omega
    refine ⟨?_, frozen_of_row _ _ _ _ _ hh, ⟨by rw [List.length_set]; exact hl, .inr ⟨G, c, cur.setIfInBounds p u, rfl, hB, ?_, h1, h2, by simpa using h3, ?_⟩⟩, gb_set _ _ _ _⟩
    · rw [cell_of_row _ _ _ _ _ _ hh, ← ht, List.getElem?_take_of_lt (by omega)]
      simp
    · rw [setCell_eq_setRow _ _ _ _ _ _ _ hh]
      exact setRow_heap _ _ _ _ _ _ hh
    · rw [← ht, Array.toList_setIfInBounds, List.take_set]
/-- The list of f's values below n. -/
def rl {α : Type} (f : Nat → α) (n : Nat) : List α := (List.range n).map f
theorem rl_len {α : Type} (f : Nat → α) (n : Nat) : (rl f n).length = n := by simp [rl]
theorem rl_at {α : Type} (f : Nat → α) (n i : Nat) (h : i < n) : (rl f n)[i]? = some (f i) := by
  unfold rl
  rw [List.getElem?_map, List.getElem?_range h]
  rfl
theorem rl_set {α : Type} (f : Nat → α) (n k : Nat) (v : α) (h : k < n) : (rl f n).set k v = rl (fun j => if j = k then v else f j) n := by
  refine List.ext_getElem? fun i => ?_
  rw [List.getElem?_set, rl_len]
  by_cases hi : i < n
  · rw [rl_at _ _ _ hi, rl_at _ _ _ hi]
    by_cases e : k = i
    · subst e; simp [hi]
    · rw [if_neg e]
      simp only [if_neg (Ne.symm e)]
  · have e1 : (rl f n)[i]? = none := List.getElem?_eq_none (by rw [rl_len]; omega)
    have e2 : (rl (fun j => if j = k then v else f j) n)[i]? = none := List.getElem?_eq_none (by rw [rl_len]; omega)
    rw [e1, e2, if_neg (by omega)]
theorem rl_const {α : Type} (v : α) (n : Nat) : rl (fun _ => v) n = List.replicate n v := by
  refine List.ext_getElem? fun i => ?_
  by_cases hi : i < n
  · rw [rl_at _ _ _ hi, List.getElem?_replicate, if_pos hi]
  · rw [List.getElem?_eq_none (by rw [rl_len]; omega), List.getElem?_replicate, if_neg hi]

/-- Lists in memory: the row of rows at G, the rows at places of their own. -/
structure WO (w : World) (B n G : Nat) (h : Nat → Option Addr) (cc : Nat → Nat) (f : Nat → List Nat) : Prop where
  out : w.ownsRow B 22 1 (.slice (some ⟨G, 0, none⟩) n n) n (rl (fun p => Value.slice (h p) (f p).length (cc p)) n)
  row : ∀ p, p < n → w.ownsRow B 3 1 (.slice (h p) (f p).length (cc p)) (f p).length (iv (f p))
section
variable {w w' : World} {B n G : Nat} {h : Nat → Option Addr} {cc : Nat → Nat} {f : Nat → List Nat}
theorem WO.below (H : WO w B n G h cc f) (hb : Below w.heap.size w w') : WO w' B n G h cc f := ⟨own_below H.out hb, fun p hp => own_below (H.row p hp) hb⟩
theorem WO.drew (H : WO w B n G h cc f) : WO w.drew B n G h cc f := ⟨H.out, H.row⟩
theorem WO.base {B' : Nat} (H : WO w B n G h cc f) (hb : B' ≤ B) : WO w B' n G h cc f := ⟨own_base H.out hb, fun p hp => own_base (H.row p hp) hb⟩
/-- The cell of a place. -/
theorem WO.cell (H : WO w B n G h cc f) {p : Nat} (hp : p < n) : w.cell? ⟨G, p, none⟩ = some (.slice (h p) (f p).length (cc p)) ∧ w.frozen? ⟨G, p, none⟩ = false := by
  obtain ⟨h1, h2, -, -⟩ := own_put (u := .bool true) H.out hp
  rw [rl_at _ _ _ hp] at h1
  exact ⟨h1, h2⟩
theorem WO.lt (H : WO w B n G h cc f) : B ≤ G ∧ G < w.heap.size := H.out.lt G rfl
theorem WO.put (H : WO w B n G h cc f) {p : Nat} (hp : p < n) {A : Option Addr} {c : Nat} {L : List Nat} (hrow : w.ownsRow B 3 1 (.slice A L.length c) L.length (iv L)) :
    WO (w.setCell ⟨G, p, none⟩ (.slice A L.length c)) B n G (fun j => if j = p then A else h j) (fun j => if j = p then c else cc j) (fun j => if j = p then L else f j) := by
  obtain ⟨-, -, h1, hg⟩ := own_put (u := .slice A L.length c) H.out hp
  have key : ∀ {A' : Option Addr} {c' m : Nat} {xs : List Value}, w.ownsRow B 3 1 (.slice A' m c') m xs → (w.setCell ⟨G, p, none⟩ (.slice A L.length c)).ownsRow B 3 1 (.slice A' m c') m xs := fun hr =>
    kept_ne hr hg (fun g e => by cases e; exact fun e2 => own_ne hr H.out (by decide) G e2 rfl)
  refine ⟨?_, fun j hj => ?_⟩
  · rw [rl_set _ _ _ _ hp] at h1
    have e : (fun j => if j = p then Value.slice A L.length c else Value.slice (h j) (f j).length (cc j)) = fun j => Value.slice (if j = p then A else h j) (if j = p then L else f j).length (if j = p then c else cc j) := by
      funext j
      by_cases e : j = p
      · simp [e]
      · simp [e]
    rw [e] at h1
    exact h1
  · by_cases e : j = p
    · simp only [if_pos e]
      exact key hrow
    · simp only [if_neg e]
      exact key (H.row j hj)
theorem WO.congr (H : WO w B n G h cc f) {f' : Nat → List Nat} (hf : ∀ p, p < n → f p = f' p) : WO w B n G h cc f' := by
  refine ⟨?_, fun p hp => by rw [← hf p hp]; exact H.row p hp⟩
  have e : rl (fun p => Value.slice (h p) (f p).length (cc p)) n = rl (fun p => Value.slice (h p) (f' p).length (cc p)) n := by
    unfold rl
    refine List.map_congr_left fun p hp => ?_
    rw [hf p (List.mem_range.1 hp)]
  rw [← e]
  exact H.out
/-- What grows at a row of its own leaves the lists. -/
theorem WO.grown (H : WO w B n G h cc f) {v : Value} {m B' : Nat} {xs : List Value} (hv : w.ownsRow B' 3 1 v m xs) (hB : w.heap.size ≤ B' ∨ ∀ p, p < n → v.ownBlock ≠ (Value.slice (h p) (f p).length (cc p)).ownBlock ∨ v.ownBlock = none) (hg : w.grownBy w' v.ownBlock) : WO w' B n G h cc f := by
  refine ⟨kept_ne H.out hg (fun g e e2 => own_ne hv H.out (by decide) g e e2), fun p hp => ?_⟩
  refine kept_ne (H.row p hp) hg (fun g e e2 => ?_)
  rcases hB with h1 | h1
  · have := (hv.lt g e).1
    have := ((H.row p hp).lt g e2).2
    omega
  · rcases h1 p hp with h2 | h2
    · exact h2 (by rw [e, e2])
    · rw [h2] at e; cases e
end

end Go.Proofs.Ytfdmneceecaocaa.Di
