import Derived.Test.YtgknfkmojhganaaAcI
import Derived.Test.YtgknfkmojhganaaAcJ
namespace Go.Proofs.Ytgknfkmojhganaa.Di
open Go.RowKit
open Go.Proofs.Ytgknfkmojhganaa.Tp
set_option linter.unusedVariables false

/-- While events are gathered: L lie in the estate in box C. -/
def CRel (B C : Nat) (n : Int) (L : List Ac) (W : World) : Prop := ∃ (A' : Option Addr) (c' : Nat), W.heap[C]? = some (.cells (ge ⟨n, L⟩ ⟨A', c'⟩) 33 (0, 0)) ∧ W.ownsRow B 57 7 (.slice A' L.length c') L.length (av L)
theorem crel_below {B C : Nat} {n : Int} {L : List Ac} {W W' : World} (h : CRel B C n L W) (hb : Below W.heap.size W W') : CRel B C n L W' := by
  obtain ⟨A', c', h1, h2⟩ := h
  exact ⟨A', c', (hb.block _ (row_lt h1)).trans h1, own_below h2 hb⟩
theorem crel_q {B C : Nat} {n : Int} {L : List Ac} {A' : Option Addr} {c' : Nat} {W w12 : World} {o : Obj} (hq : W.heap[C]? = some (.cells (ge ⟨n, L⟩ ⟨A', c'⟩) 33 (0, 0))) (ho : W.ownsRow B 57 7 (.slice A' L.length c') L.length (av L)) (hgr : (W.alloc o).grownBy w12 (Value.slice A' L.length c').ownBlock) : w12.heap[C]? = some (.cells (ge ⟨n, L⟩ ⟨A', c'⟩) 33 (0, 0)) := by
  have h1 := (heap_alloc_old W o (row_lt hq)).trans hq
  exact (hgr.block C (by have := row_lt hq; simp; omega) (fun e => own_not (own_below ho (box_below W o)) h1 (by decide) e.symm)).trans h1
theorem crel_add {B C : Nat} {n : Int} {L : List Ac} {x : Ac} {A' A2 : Option Addr} {c' c2 : Nat} {W w12 : World} {o : Obj} (hq : W.heap[C]? = some (.cells (ge ⟨n, L⟩ ⟨A', c'⟩) 33 (0, 0))) (ho : W.ownsRow B 57 7 (.slice A' L.length c') L.length (av L)) (hgr : (W.alloc o).grownBy w12 (Value.slice A' L.length c').ownBlock)
    (ho2 : w12.ownsRow B 57 7 (.slice A2 (L.length + 1) c2) (L.length + 1) (av L ++ [.int .i64 x.t, .int .i64 x.k, .int .i64 x.p, .int .i64 x.r, .int .i64 x.u, .int .i64 x.c, .int .i64 x.f])) : CRel B C n (L ++ [x]) (w12.setRow C ((ge ⟨n, L⟩ ⟨A', c'⟩).setIfInBounds 1 (.slice A2 (L.length + 1) c2))) := by
  have hlen : (L ++ [x]).length = L.length + 1 := by simp
  have hq2 := crel_q hq ho hgr
  refine ⟨A2, c2, ?_, ?_⟩
  · rw [setRow_heap _ _ _ _ _ _ hq2]
    unfold ge
    rw [hlen]
    rfl
  · rw [hlen, av_snoc]
    exact kept_ne ho2 (gb_setRow _ _ _) (fun g e => by cases e; exact own_not ho2 hq2 (by decide))

theorem crel_el {B C : Nat} {n : Int} {L : List Ac} {W : World} (h : CRel B C n L W) : ∃ v, W.heap[C]? = some (.cells (ge ⟨n, L⟩ v) 33 (0, 0)) ∧ EL W 0 ⟨n, L⟩ v := by
  obtain ⟨A', c', h1, h2⟩ := h
  exact ⟨⟨A', c'⟩, h1, Row.base (row_of_own h2) (Nat.zero_le _)⟩
/-- Events of one place, among the first k. -/
structure PRel (a : Es) (p t : Int) (k : Nat) (L : List Ac) : Prop where
  len : L.length ≤ k
  ok : Eok ⟨a.n, L⟩
  tm : ∀ j, j < L.length → ∀ i, k ≤ i → i < a.e.length → (ag L j).t ≤ (ag a.e i).t
  lk : (lkA L p t).isSome = (lk a.e p t k).isSome
  gr : ∀ r, (grA L p t r).isSome = (gr a.e p t r k).isSome
theorem PRel.start {a : Es} (h : Eok a) (p t : Int) : PRel a p t 0 [] := ⟨by simp, Eok.nil h.n1 h.n16, fun j h => absurd h (by simp), rfl, fun r => rfl⟩
theorem PRel.keep {a : Es} (h : Eok a) {p t : Int} {k : Nat} {L : List Ac} (hr : PRel a p t k L) (hk : k < a.e.length) : PRel a p t (k + 1) (L ++ [ag a.e k]) := by
  have hm := h.m
  refine ⟨by have := hr.len; simp; omega, hr.ok.add (by have := hr.len; omega) (h.e k hk) (fun j hj => hr.tm j hj k (Nat.le_refl _) hk), fun j hj i h1 h2 => ?_, ?_, fun r => ?_⟩
  · simp at hj
    by_cases e : j = L.length
    · rw [e, ag_end]
      have := h.mono (i - k) k (by omega)
      rwa [show k + (i - k) = i by omega] at this
    · rw [ag_left (by omega)]; exact hr.tm j (by omega) i (by omega) h2
  · rw [lkA_snoc, Di.lk]
    have := hr.lk
    split
    · exact this
    · split
      · rfl
      · split
        · rfl
        · exact this
  · rw [grA_snoc, Di.gr]
    have := hr.gr r
    split
    · exact this
    · split
      · split
        · rfl
        · exact this
      · split
        · split
          · rfl
          · exact this
        · exact this
theorem PRel.skip {a : Es} {p t : Int} {k : Nat} {L : List Ac} (hr : PRel a p t k L) (hne : (ag a.e k).p ≠ p) : PRel a p t (k + 1) L := by
  refine ⟨by have := hr.len; omega, hr.ok, fun j hj i h1 h2 => hr.tm j hj i (by omega) h2, ?_, fun r => ?_⟩
  · rw [Di.lk, if_pos (.inr hne)]; exact hr.lk
  · rw [Di.gr, if_pos (.inr hne)]; exact hr.gr r

end Go.Proofs.Ytgknfkmojhganaa.Di
