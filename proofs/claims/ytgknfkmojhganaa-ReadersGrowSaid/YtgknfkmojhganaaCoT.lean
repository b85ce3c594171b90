import Derived.Test.YtgknfkmojhganaaAcK
import Derived.Test.YtgknfkmojhganaaAcI
namespace Go.Proofs.Ytgknfkmojhganaa.Di
open Go.RowKit
open Go.Proofs.Ytgknfkmojhganaa.Tp
set_option linter.unusedVariables false

theorem cp_q {B C : Nat} {n : Int} {L : List Ac} {v : Ve} {A' : Option Addr} {c' : Nat} {W w12 : World} {o : Obj} (hq : W.heap[C]? = some (.cells (ge ⟨n, L⟩ v) 33 (0, 0))) (ho : W.ownsRow B 57 7 (.slice A' L.length c') L.length (av L)) (hgr : (W.alloc o).grownBy w12 (Value.slice A' L.length c').ownBlock) : w12.heap[C]? = some (.cells (ge ⟨n, L⟩ v) 33 (0, 0)) := by
  have h1 := (heap_alloc_old W o (row_lt hq)).trans hq
  exact (hgr.block C (by have := row_lt hq; simp; omega) (fun e => own_not (own_below ho (box_below W o)) h1 (by decide) e.symm)).trans h1
theorem cp_add {B C : Nat} {n : Int} {L : List Ac} {v : Ve} {x : Ac} {A' A2 : Option Addr} {c' c2 : Nat} {W w12 : World} {o : Obj} (hq : W.heap[C]? = some (.cells (ge ⟨n, L⟩ v) 33 (0, 0))) (ho : W.ownsRow B 57 7 (.slice A' L.length c') L.length (av L)) (hgr : (W.alloc o).grownBy w12 (Value.slice A' L.length c').ownBlock)
    (ho2 : w12.ownsRow B 57 7 (.slice A2 (L.length + 1) c2) (L.length + 1) (av L ++ [.int .i64 x.t, .int .i64 x.k, .int .i64 x.p, .int .i64 x.r, .int .i64 x.u, .int .i64 x.c, .int .i64 x.f])) : CRel B C n (L ++ [x]) (w12.setCell ⟨C, 1, none⟩ (.slice A2 (L.length + 1) c2)) := by
  have hlen : (L ++ [x]).length = L.length + 1 := by simp
  have hq2 := cp_q hq ho hgr
  rw [setCell_eq_setRow w12 C 1 _ _ _ _ hq2]
  refine ⟨A2, c2, ?_, ?_⟩
  · rw [setRow_heap _ _ _ _ _ _ hq2]
    unfold ge
    rw [hlen]
    rfl
  · rw [hlen, av_snoc]
    exact kept_ne ho2 (gb_setRow _ _ _) (fun g e => by cases e; exact own_not ho2 hq2 (by decide))
theorem Eok.last29 {a : Es} (h : MkE a) : ∃ lt : Nat, lastA a.e = (lt : Int) ∧ lt ≤ 1000 ∧ ∀ j, j < a.e.length → (ag a.e j).t ≤ (lt : Int) := by
  have key : 0 ≤ lastA a.e ∧ lastA a.e ≤ 1000 := by
    unfold lastA
    by_cases e : a.e.length = 0
    · rw [if_pos e]; omega
    · rw [if_neg e]
      exact ⟨(h.ok.e _ (by omega)).1, h.t _ (by omega)⟩
  refine ⟨(lastA a.e).toNat, by omega, by omega, fun j hj => ?_⟩
  have := h.ok.le_last hj
  omega

end Go.Proofs.Ytgknfkmojhganaa.Di
