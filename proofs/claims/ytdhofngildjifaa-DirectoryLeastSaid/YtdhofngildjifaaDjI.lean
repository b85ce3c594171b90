import Derived.Test.YtdhofngildjifaaDjH
namespace Go.Proofs.Ytdhofngildjifaa.Di
open Go.RowKit
open Go.Proofs.Ytdhofngildjifaa.Tp
set_option linter.unusedVariables false

/-- Twenty-four bools, as cells. -/
def arr (F : Nat → Bool) : Array Value := (rl (fun q => Value.bool (F q)) 24).toArray
theorem arr_no : arr (fun _ => false) = #[.bool false, .bool false, .bool false, .bool false, .bool false, .bool false, .bool false, .bool false, .bool false, .bool false, .bool false, .bool false, .bool false, .bool false, .bool false, .bool false, .bool false, .bool false, .bool false, .bool false, .bool false, .bool false, .bool false, .bool false] := by kernel_rfl
theorem arr_cell {w : World} {X q : Nat} {F : Nat → Bool} {t : TypeId} (h : w.heap[X]? = some (.cells (arr F) t (0, 0))) (hq : q < 24) : w.cell? ⟨X, q, none⟩ = some (.bool (F q)) ∧ w.frozen? ⟨X, q, none⟩ = false := by
  refine ⟨?_, frozen_of_row _ _ _ _ _ h⟩
  rw [cell_of_row _ _ _ _ _ _ h]
  unfold arr
  rw [List.getElem?_toArray, rl_at _ _ _ hq]
theorem arr_put {w : World} {X q : Nat} {F : Nat → Bool} {t : TypeId} (b : Bool) (h : w.heap[X]? = some (.cells (arr F) t (0, 0))) (hq : q < 24) : w.setCell ⟨X, q, none⟩ (.bool b) = w.setRow X (arr (fun a => if a = q then b else F a)) := by
  rw [setCell_eq_setRow _ _ _ _ _ _ _ h]
  congr 1
  unfold arr
  rw [List.setIfInBounds_toArray]
  congr 1
  rw [rl_set _ _ _ _ hq]
  congr 1
  funext a
  by_cases e : a = q
  · simp only [if_pos e]
  · simp only [if_neg e]
/-- Who is wanted behind the first j that are directly in it. -/
noncomputable def wnt (d : Dy) (t : Nat) (D : List Nat) (q j : Nat) : Bool := anyB (fun i => (D.getD i 0 == q && rB d (D.getD i 0)) || memB d t (D.getD i 0) q) j
theorem rB_iff (d : Dy) (p : Nat) : rB d p = true ↔ p < d.k.length ∧ kd d p ≠ 2 := by
  unfold rB
  rw [Bool.and_eq_true, decide_eq_true_iff, bne_iff_ne]
theorem memB_iff (d : Dy) (t g q : Nat) : memB d t g q = true ↔ (g < d.k.length ∧ kd d g = 2) ∧ gB d q = false ∧ q < d.k.length ∧ Rc d t q g := by
  unfold memB
  rw [Bool.and_eq_true, Bool.and_eq_true, gB_iff, upB_iff, Bool.not_eq_true']
theorem want_all {d : Dy} (h : Ok d) {t g q : Nat} (hg : g < d.k.length) (h2 : kd d g = 2) (hq : q < d.k.length) :
    wnt d t (idx (fun p => dm d t p g) d.k.length) q (cnt (fun p => dm d t p g) d.k.length) = memB d t g q := by
  rw [Bool.eq_iff_iff]
  unfold wnt
  rw [any_iff, memB_iff]
  constructor
  · rintro ⟨i, hi, hb⟩
    obtain ⟨h3, h4⟩ := at_idx hi
    generalize (idx (fun p => dm d t p g) d.k.length).getD i 0 = u at *
    rw [Bool.or_eq_true, Bool.and_eq_true, beq_iff_eq, rB_iff, memB_iff] at hb
    rcases hb with ⟨rfl, -, h5⟩ | ⟨-, h5, h6, h7⟩
    · refine ⟨⟨hg, h2⟩, ?_, hq, .step .here hq hg h4⟩
      cases hb : gB d u with
      | false => rfl
      | true => exact absurd ((gB_iff d u).1 hb).2 h5
    · exact ⟨⟨hg, h2⟩, h5, hq, .step h7 h3 hg h4⟩
  · rintro ⟨-, h3, -, h4⟩
    have hk : kd d q ≠ 2 := fun e => by rw [(gB_iff d q).2 ⟨hq, e⟩] at h3; cases h3
    obtain ⟨u, hu, hm, hh⟩ := (union_iff h hq hk hg h2).1 h4
    obtain ⟨i, hi, e⟩ := List.getElem_of_mem ((idx_mem (fun p => dm d t p g) u d.k.length).2 ⟨hu, hm⟩)
    have e2 : (idx (fun p => dm d t p g) d.k.length).getD i 0 = u := by rw [List.getD_eq_getElem?_getD, List.getElem?_eq_getElem hi]; exact e
    refine ⟨i, by rw [← idx_len]; exact hi, ?_⟩
    rw [e2, Bool.or_eq_true, Bool.and_eq_true, beq_iff_eq, rB_iff, memB_iff]
    rcases hh with rfl | ⟨h5, h6⟩
    · exact .inl ⟨rfl, hq, hk⟩
    · exact .inr ⟨⟨hu, h5⟩, h3, hq, h6⟩

end Go.Proofs.Ytdhofngildjifaa.Di
