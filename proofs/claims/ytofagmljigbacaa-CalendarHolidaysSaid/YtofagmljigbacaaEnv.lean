import Derived.Test.YtofagmljigbacaaFrame
namespace Go.Proofs.Ytofagmljigbacaa.Tp
open Go.RowKit
open Go.Proofs.Ytofagmljigbacaa.Cal
set_option linter.unusedVariables false

/-- A copy of the calendar in a new block. -/
theorem Env.copy {w wr : World} {g D F U W n c : Nat} {A : Option Addr} {hs : List Nat} (h : Env w g D F U W A n c hs wr) (x : Array Value) :
    Env w wr.heap.size D F U W A n c hs ((wr.alloc (.cells x 24)).setRow wr.heap.size (calC D F U W A n c)) ∧ Env w g D F U W A n c hs ((wr.alloc (.cells x 24)).setRow wr.heap.size (calC D F U W A n c)) := by
  have hb1 : Below wr.heap.size wr ((wr.alloc (.cells x 24)).setRow wr.heap.size (calC D F U W A n c)) := below_setRow (box_below wr _) (Nat.le_refl _) _
  have h2 := h.below hb1
  have hgt := h.gt
  have htg := h.tg
  exact ⟨⟨setRow_heap _ _ _ _ _ _ (heap_alloc_new wr _), h2.ok, h2.far, h2.tp, h2.bl, by omega⟩, h2⟩

/-- A store into another calendar's block. -/
theorem Env.set {w wr : World} {g D F U W n c : Nat} {A : Option Addr} {hs : List Nat} (h : Env w g D F U W A n c hs wr) {g' : Nat} (hne : g ≠ g') (hT : w.heap.size < g') (hA : 0 < n → ∀ b off, A = some ⟨b, off, none⟩ → b ≠ g') (i : Nat) (v : Value) :
    Env w g D F U W A n c hs (wr.setCell ⟨g', i, none⟩ v) :=
  ⟨(heap_setCell_other _ _ _ _ hne).trans h.row, ⟨h.ok.d0, h.ok.d1, h.ok.f, h.ok.t, h.ok.wlt, ⟨h.ok.h.len, h.ok.h.few, h.ok.h.small, h.ok.h.up, fun h0 => by
    obtain ⟨b, off, e, hlt, hc⟩ := h.ok.h.mem h0
    have hf := hA h0 b off e
    exact ⟨b, off, e, by simp [World.setCell]; exact hlt, fun j hj => (World.cell?_of_block (w := wr) (heap_setCell_other _ _ _ _ hf)).trans (hc j hj)⟩⟩⟩, h.far, h.tp.kept (gb_set wr g' i v) (fun k e => by cases e; exact hT),
    h.bl.setCell (by simp; omega) v, h.tg⟩

/-- The copy with the first holiday left out. -/
theorem Env.less {w wr : World} {g g' D F U W n c : Nat} {A A' : Option Addr} {hs : List Nat} (h : Env w g D F U W A n c hs wr) (hr : wr.heap[g']? = some (.cells (calC D F U W A n c) 24 (0, 0))) (hT : w.heap.size < g') (hn : 0 < n) (hA : ∀ b off, A = some ⟨b, off, none⟩ → b ≠ g')
    (hA1 : 1 < n → ∀ b off, A = some ⟨b, off, none⟩ → A' = some ⟨b, off + 1, none⟩) (hfar : ∀ b off, A' = some ⟨b, off, none⟩ → w.heap.size < b) (c' : Nat) :
    Env w g' D F U W A' (n - 1) c' hs.tail (wr.setCell ⟨g', 4, none⟩ (.slice A' (n - 1) c')) := by
  refine ⟨heap_setCell_same _ _ _ _ _ _ hr, ⟨h.ok.d0, h.ok.d1, h.ok.f, h.ok.t, h.ok.wlt, ⟨by rw [List.length_tail, h.ok.h.len], by have := h.ok.h.few; omega, fun x hx => h.ok.h.small x (List.mem_of_mem_tail hx), fun i j hij hj => ?_, fun h0 => ?_⟩⟩, hfar,
    h.tp.kept (gb_set wr g' 4 _) (fun k e => by cases e; exact hT), h.bl.setCell (by simp; omega) _, hT⟩
  · have := h.ok.h.up (i + 1) (j + 1) (by omega) (by omega)
    simpa [List.getD_eq_getElem?_getD, List.getElem?_tail] using this
  · obtain ⟨b, off, e, hlt, hc⟩ := h.ok.h.mem hn
    refine ⟨b, off + 1, hA1 (by omega) b off e, by simp [World.setCell]; exact hlt, fun j hj => ?_⟩
    have h2 := hc (j + 1) (by omega)
    refine ((World.cell?_of_block (w := wr) (heap_setCell_other _ _ _ _ (hA b off e))).trans ?_)
    have e2 : hs.tail.getD j 0 = hs.getD (j + 1) 0 := by simp [List.getD_eq_getElem?_getD, List.getElem?_tail]
    rw [e2, ← h2]
    congr 2
    omega

/-- The copy without holidays. -/
theorem Env.plain {w wr : World} {g g' D F U W n c : Nat} {A : Option Addr} {hs : List Nat} (h : Env w g D F U W A n c hs wr) (hr : wr.heap[g']? = some (.cells (calC D F U W A n c) 24 (0, 0))) (hT : w.heap.size < g') :
    Env w g' D F U W none 0 0 [] (wr.setCell ⟨g', 4, none⟩ (.slice none 0 0)) :=
  ⟨heap_setCell_same _ _ _ _ _ _ hr, ⟨h.ok.d0, h.ok.d1, h.ok.f, h.ok.t, h.ok.wlt, ⟨rfl, by omega, by simp, by simp, fun h0 => absurd h0 (by omega)⟩⟩, fun b off e => (by cases e), h.tp.kept (gb_set wr g' 4 _) (fun k e => by cases e; exact hT),
    h.bl.setCell (by simp; omega) _, hT⟩

theorem Env.block {w wr : World} {g D F U W n c : Nat} {A : Option Addr} {hs : List Nat} (h : Env w g D F U W A n c hs wr) : 0 < n → ∀ b off, A = some ⟨b, off, none⟩ → b < wr.heap.size := by
  intro h0 b off e
  obtain ⟨b', off', e', hlt, _⟩ := h.ok.h.mem h0
  rw [e] at e'
  cases e'
  exact hlt

end Go.Proofs.Ytofagmljigbacaa.Tp
