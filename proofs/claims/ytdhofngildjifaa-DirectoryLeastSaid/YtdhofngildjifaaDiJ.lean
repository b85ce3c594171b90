import Derived.Test.YtdhofngildjifaaDiI
namespace Go.Proofs.Ytdhofngildjifaa.Di
open Go.RowKit
open Go.Proofs.Ytdhofngildjifaa.Tp
set_option linter.unusedVariables false

/-- A matrix in memory: an outer row, and a row of bools for each number. -/
structure MM (w : World) (B n : Nat) (A : Option Addr) (M : Nat → Nat → Bool) : Prop where
  row : ∀ p, p < n → ∃ G off g, A = some ⟨G, off, none⟩ ∧ B ≤ G ∧ G < w.heap.size ∧ B ≤ g ∧ g < w.heap.size ∧ w.cell? ⟨G, off + p, none⟩ = some (.slice (some ⟨g, 0, none⟩) n n) ∧ ∀ q, q < n → w.cell? ⟨g, q, none⟩ = some (.bool (M p q))
theorem MM.below {w w' : World} {B n : Nat} {A : Option Addr} {M : Nat → Nat → Bool} (h : MM w B n A M) (hb : Below w.heap.size w w') : MM w' B n A M := by
  refine ⟨fun p hp => ?_⟩
  obtain ⟨G, off, g, hA, h1, h2, h3, h4, h5, h6⟩ := h.row p hp
  exact ⟨G, off, g, hA, h1, Nat.lt_of_lt_of_le h2 hb.size, h3, Nat.lt_of_lt_of_le h4 hb.size, (hb.cell (p := ⟨G, _, none⟩) h2).trans h5, fun q hq => (hb.cell (p := ⟨g, _, none⟩) h4).trans (h6 q hq)⟩
theorem MM.base {w : World} {B B' n : Nat} {A : Option Addr} {M : Nat → Nat → Bool} (h : MM w B n A M) (hb : B' ≤ B) : MM w B' n A M := by
  refine ⟨fun p hp => ?_⟩
  obtain ⟨G, off, g, hA, h1, h2, h3, h4, h5, h6⟩ := h.row p hp
  exact ⟨G, off, g, hA, Nat.le_trans hb h1, h2, Nat.le_trans hb h3, h4, h5, h6⟩

set_option maxRecDepth 100000 in
set_option maxHeartbeats 400000 in
/-- Direct's test: is it directly in the group? -/
theorem dq_call (q u gm gg n c : Nat) (A : Option Addr) (M : Nat → Nat → Bool) (w : World) (hm : w.cell? ⟨gm, 0, none⟩ = some (.slice A n c)) (hg : w.cell? ⟨gg, 0, none⟩ = some (.int .i64 (u : Int))) (hr : MM w 0 n A M) (hq : q < n) (hu : u < n) :
    Calls Try.prog 48 (#[.int .i64 (q : Int)] ++ #[.pointer (some ⟨gm, 0, none⟩), .pointer (some ⟨gg, 0, none⟩)]) w fun e w' => e = .returned (.bool (M q u)) ∧ Below w.heap.size w w' := by
  obtain ⟨G, off, g, rfl, -, -, -, -, y0, y1⟩ := hr.row q hq
  have y2 := y1 u hu
  have j0 : (0 : Int) ≤ (q : Int) := by omega
  have j1 : (q : Int) < (n : Int) := by omega
  have k0 : (0 : Int) ≤ (u : Int) := by omega
  have k1 : (u : Int) < (n : Int) := by omega
  clear hr y1
  show Calls Try.prog 48 #[.int .i64 (q : Int), .pointer (some ⟨gm, 0, none⟩), .pointer (some ⟨gg, 0, none⟩)] w _
  generalize M q u = b at *
  have HB := Lib.hid (Below.refl w.heap.size w)
  go_enter Try.func48, Try.ntmps48
  go_wp2_with fail
  go_quiet (fail)
  go_wp2_with fail
  go_ret
  have hb := HB.out
  exact ⟨by first | rfl | simp, ⟨hb.os, hb.tape, hb.output, hb.size, hb.block⟩⟩

end Go.Proofs.Ytdhofngildjifaa.Di
