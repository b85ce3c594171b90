import Derived.Test.YtofagmljigbacaaAwake
import Derived.ProofKit
import Derived.OpenShut
import Derived.ShutString
import Derived.ChangeOld
namespace Go.Proofs.Ytofagmljigbacaa.Tp
open Go.RowKit
open Go.Proofs.Ytofagmljigbacaa.Cal
set_option linter.unusedVariables false

theorem own : ownKnob Try.prog.godebug = none := by kernel_rfl
theorem laidOut : laidOutB Try.prog = true := by kernel_rfl

/-- A slice of integers that came in: nil, or a row of 'cap' cells. -/
def IsRow (k : IntKind) (w : World) (a : Option Addr) (len cap : Nat) (zs : List Int) : Prop :=
  (a = none ∧ len = 0 ∧ cap = 0 ∧ zs = []) ∨
  ∃ x, a = some x ∧ len ≤ cap ∧ cap ≤ maxLen ∧ zs.length = cap ∧ (∀ i, i < zs.length → w.cell? (x.add i) = some (.int k (zs.getD i 0))) ∧ ∀ n ∈ zs, (Lit.int k n).wf = true

theorem IsRow.at_ {k : IntKind} {w : World} {a : Option Addr} {len cap : Nat} {zs : List Int} (h : IsRow k w a len cap zs) :
    len ≤ maxLen ∧ (0 < len → ∃ b off, a = some ⟨b, off, none⟩ ∧ b < w.heap.size ∧ ∀ j, j < len → w.cell? ⟨b, off + j, none⟩ = some (.int k (zs.getD j 0))) := by
  rcases h with ⟨rfl, rfl, rfl, rfl⟩ | ⟨x, rfl, hl, hm, hz, hc, hw⟩
  · exact ⟨by unfold maxLen; omega, fun h => absurd h (by omega)⟩
  · refine ⟨by omega, fun h0 => ?_⟩
    obtain ⟨b, off, spot⟩ := x
    have hc0 := hc 0 (by omega)
    have hspot : spot = none := by simpa [Addr.add] using World.cell?_spot hc0
    subst hspot
    have hlt : b < w.heap.size := by simpa [Addr.add] using block_lt_of_cell hc0
    refine ⟨b, off, rfl, hlt, fun j hj => ?_⟩
    have hj := hc j (by omega)
    have e : (⟨b, off, none⟩ : Addr).add j = ⟨b, off + j, none⟩ := by unfold Addr.add; split <;> simp_all
    rwa [e] at hj

theorem tape_new {w : World} {a : Option Addr} {len cap : Nat} {zs : List Int} (h : IsRow .i64 w a len cap zs) : TapeOk (w.alloc (.cells #[.slice a len cap, .int .i64 0] 28)) w.heap.size := by
  obtain ⟨hm, hc⟩ := h.at_
  unfold maxLen at hm
  refine ⟨a, len, cap, fun j => zs.getD j 0, 0, heap_alloc_new _ _, hm, by omega, fun h0 => ?_⟩
  obtain ⟨b, off, e, hlt, hcell⟩ := hc h0
  exact ⟨b, off, e, hlt, fun j hj => (World.cell?_alloc_lt w _ _ hlt).trans (hcell j hj)⟩

/-- What a law stands on behind its maker: the calendar in block g, the tape in block T. -/
structure Env (w : World) (g D F U W : Nat) (A : Option Addr) (n c : Nat) (hs : List Nat) (wr : World) : Prop where
  row : wr.heap[g]? = some (.cells (calC D F U W A n c) 24 (0, 0))
  ok : CalOk wr D F U W A n hs
  far : ∀ b off, A = some ⟨b, off, none⟩ → w.heap.size < b
  tp : TapeOk wr w.heap.size
  bl : Below w.heap.size w wr
  tg : w.heap.size < g

theorem Env.gt {w wr : World} {g D F U W n c : Nat} {A : Option Addr} {hs : List Nat} (h : Env w g D F U W A n c hs wr) : g < wr.heap.size := by
  by_cases hh : g < wr.heap.size
  · exact hh
  · have e : wr.heap[g]? = none := by simp; omega
    have := h.row
    rw [e] at this
    cases this

theorem Env.below {w wr w' : World} {g D F U W n c : Nat} {A : Option Addr} {hs : List Nat} (h : Env w g D F U W A n c hs wr) (hb : Below wr.heap.size wr w') : Env w g D F U W A n c hs w' :=
  have hgt := h.gt
  have htg := h.tg
  ⟨(hb.block g hgt).trans h.row, h.ok.below hb, h.far, h.tp.kept (row := none) ⟨hb.os, hb.tape, hb.output, hb.size, fun k hk _ => hb.block k hk⟩ (by simp), h.bl.trans (hb.mono (by omega)), htg⟩

theorem Env.tape {w wr w' : World} {g D F U W n c : Nat} {A : Option Addr} {hs : List Nat} (h : Env w g D F U W A n c hs wr) (hg : wr.grownBy w' (some w.heap.size)) (ht : TapeOk w' w.heap.size) : Env w g D F U W A n c hs w' :=
  have hgt := h.gt
  have htg := h.tg
  ⟨(hg.block g hgt (by simp; omega)).trans h.row, ⟨h.ok.d0, h.ok.d1, h.ok.f, h.ok.t, h.ok.wlt, ⟨h.ok.h.len, h.ok.h.few, h.ok.h.small, h.ok.h.up, fun h0 => by
    obtain ⟨b, off, e, hlt, hc⟩ := h.ok.h.mem h0
    have hf := h.far b off e
    exact ⟨b, off, e, Nat.lt_of_lt_of_le hlt hg.size, fun j hj => (World.cell?_of_block (w := wr) (hg.block b hlt (by simp; omega))).trans (hc j hj)⟩⟩⟩, h.far, ht,
    h.bl.grown hg (by omega) (fun k e => by cases e; exact Nat.le_refl _), htg⟩

theorem env_new {w w1 : World} {o : Obj} {x : Array Value} {D F U W n c : Nat} {A : Option Addr} {hs : List Nat} (hok : CalOk w1 D F U W A n hs) (hfar : ∀ g off, A = some ⟨g, off, none⟩ → w.heap.size < g) (hg : (w.alloc o).grownBy w1 (some w.heap.size)) (ht : TapeOk w1 w.heap.size) :
    Env w w1.heap.size D F U W A n c hs ((w1.alloc (.cells x 24)).setRow w1.heap.size (calC D F U W A n c)) := by
  have hs1 := hg.size
  simp at hs1
  have hb1 : Below w1.heap.size w1 ((w1.alloc (.cells x 24)).setRow w1.heap.size (calC D F U W A n c)) := below_setRow (box_below w1 _) (Nat.le_refl _) _
  refine ⟨setRow_heap _ _ _ _ _ _ (heap_alloc_new w1 _), hok.below hb1, hfar, ht.kept (row := none) ⟨hb1.os, hb1.tape, hb1.output, hb1.size, fun k hk _ => hb1.block k hk⟩ (by simp), ?_, by omega⟩
  have hb0 : Below w.heap.size w w1 := ((Below.refl _ w).alloc (Nat.le_refl _) o).grown hg (by simp) (fun k e => by cases e; exact Nat.le_refl _)
  exact hb0.trans (hb1.mono hb0.size)

end Go.Proofs.Ytofagmljigbacaa.Tp
