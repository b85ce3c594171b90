import Derived.Test.YtfdmneceecaocaaCoO
import Derived.Test.YtfdmneceecaocaaAcK
namespace Go.Proofs.Ytfdmneceecaocaa.Di
open Go.RowKit
open Go.Proofs.Ytfdmneceecaocaa.Tp
set_option linter.unusedVariables false

theorem cp_q {B C : Nat} {n : Int} {L : List Ac} {v : Ve} {A' : Option Addr} {c' : Nat} {W w12 : World} {o : Obj} (hq : W.heap[C]? = some (.cells (ge ⟨n, L⟩ v) 25 (0, 0))) (ho : W.ownsRow B 52 7 (.slice A' L.length c') L.length (av L)) (hgr : (W.alloc o).grownBy w12 (Value.slice A' L.length c').ownBlock) : w12.heap[C]? = some (.cells (ge ⟨n, L⟩ v) 25 (0, 0)) := by
  have h1 := (heap_alloc_old W o (row_lt hq)).trans hq
  exact (hgr.block C (by have := row_lt hq; simp; omega) (fun e => own_not (own_below ho (box_below W o)) h1 (by decide) e.symm)).trans h1
theorem cp_add {B C : Nat} {n : Int} {L : List Ac} {v : Ve} {x : Ac} {A' A2 : Option Addr} {c' c2 : Nat} {W w12 : World} {o : Obj} (hq : W.heap[C]? = some (.cells (ge ⟨n, L⟩ v) 25 (0, 0))) (ho : W.ownsRow B 52 7 (.slice A' L.length c') L.length (av L)) (hgr : (W.alloc o).grownBy w12 (Value.slice A' L.length c').ownBlock)
    (ho2 : w12.ownsRow B 52 7 (.slice A2 (L.length + 1) c2) (L.length + 1) (av L ++ [.int .i64 x.t, .int .i64 x.k, .int .i64 x.p, .int .i64 x.r, .int .i64 x.u, .int .i64 x.c, .int .i64 x.f])) : CRel B C n (L ++ [x]) (w12.setCell ⟨C, 1, none⟩ (.slice A2 (L.length + 1) c2)) := by
  have hlen : (L ++ [x]).length = L.length + 1 := by simp
  have hq2 := cp_q hq ho hgr
  rw [setCell_eq_setRow w12 C 1 _ _ _ _ hq2]
  refine ⟨A2, c2, ?_, ?_⟩
  · rw [setRow_heap _ _ _ _ _ _ hq2]
    unfold ge
    rw [hlen]
    rfl
  · rw [hlen, av_snoc]
    exact kept_ne ho2 (gb_setRow _ _ _) (fun g e => by cases e; exact own_not ho2 hq2 (by decide))
theorem wB_list {a : Es} {c t : Int} {p : Nat} : wB a c t p = decide (wyA a.e c t (p : Int) ≠ []) := by
  unfold wB
  cases wyA a.e c t (p : Int) <;> rfl
/-- A removal takes just one content out of one place. -/
theorem wB_rem (n : Int) (l : List Ac) (lt r c : Int) (x : Int) (p : Nat) : wB ⟨n, l ++ [⟨lt, 6, r, 0, 0, c, 0⟩]⟩ x lt p = (wB ⟨n, l⟩ x lt p && ((p : Int) != r || x != c)) := by
  have e : wyA (l ++ [⟨lt, 6, r, 0, 0, c, 0⟩]) x lt (p : Int) = if c = x ∧ (p : Int) = r then [] else wyA l x lt (p : Int) := by
    rw [wyA_snoc, if_neg (show ¬ lt < lt by omega)]
    unfold wst
    rw [if_neg (show ¬ (6 : Int) = 5 by decide), if_pos (show (6 : Int) = 6 from rfl)]
  rw [wB_list, wB_list]
  show decide (wyA (l ++ [⟨lt, 6, r, 0, 0, c, 0⟩]) x lt (p : Int) ≠ []) = _
  rw [e]
  by_cases h1 : (p : Int) = r
  · by_cases h2 : x = c
    · rw [if_pos ⟨h2.symm, h1⟩, h1, h2]; simp
    · rw [if_neg (fun h => h2 h.1.symm), show (x != c) = true from bne_iff_ne.2 h2, Bool.or_true, Bool.and_true]
  · rw [if_neg (fun h => h1 h.2), show ((p : Int) != r) = true from bne_iff_ne.2 h1, Bool.true_or, Bool.and_true]
/-- A copy brings all contents, and takes none away. -/
theorem wB_cpy (n : Int) (l : List Ac) (lt : Int) (f o : Nat) (x : Int) (p : Nat) : wB ⟨n, l ++ [⟨lt, 7, o, 0, 0, 0, f⟩]⟩ x lt p = (wB ⟨n, l⟩ x lt p || ((p : Int) == (o : Int) && wB ⟨n, l⟩ x lt f)) := by
  have e : wyA (l ++ [⟨lt, 7, o, 0, 0, 0, f⟩]) x lt (p : Int) = if (p : Int) = o ∧ wyA l x lt f ≠ [] ∧ wyA l x lt p = [] then wyA l x lt f ++ [l.length] else wyA l x lt (p : Int) := by
    rw [wyA_snoc, if_neg (show ¬ lt < lt by omega)]
    unfold wst
    rw [if_neg (show ¬ (7 : Int) = 5 by decide), if_neg (show ¬ (7 : Int) = 6 by decide), if_pos (show (7 : Int) = 7 from rfl)]
  rw [wB_list, wB_list, wB_list]
  show decide (wyA (l ++ [⟨lt, 7, o, 0, 0, 0, f⟩]) x lt (p : Int) ≠ []) = (decide (wyA l x lt (p : Int) ≠ []) || ((p : Int) == (o : Int) && decide (wyA l x lt (f : Int) ≠ [])))
  rw [e]
  by_cases h1 : (p : Int) = o
  · by_cases h2 : wyA l x lt (p : Int) = []
    · by_cases h3 : wyA l x lt (f : Int) = []
      · rw [if_neg (fun h => h.2.1 h3), h2, h3]; simp
      · rw [if_pos ⟨h1, h3, h2⟩, h2, beq_iff_eq.2 h1]; simp [h3]
    · rw [if_neg (fun h => h2 h.2.2), decide_eq_true h2, Bool.true_or]
  · rw [if_neg (fun h => h1 h.1), show ((p : Int) == (o : Int)) = false from beq_eq_false_iff_ne.2 h1, Bool.false_and, Bool.or_false]
theorem Eok.last29 {a : Es} (h : MkE a) : ∃ lt : Nat, lastA a.e = (lt : Int) ∧ lt ≤ 1000 ∧ ∀ j, j < a.e.length → (ag a.e j).t ≤ (lt : Int) := by
  have key : 0 ≤ lastA a.e ∧ lastA a.e ≤ 1000 := by
    unfold lastA
    by_cases e : a.e.length = 0
    · rw [if_pos e]; omega
    · rw [if_neg e]
      exact ⟨(h.ok.e _ (by omega)).1, h.t _ (by omega)⟩
  refine ⟨(lastA a.e).toNat, by omega, by omega, fun j hj => ?_⟩
  have := h.ok.le_last hj
  omega

end Go.Proofs.Ytfdmneceecaocaa.Di
