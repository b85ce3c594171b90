import Derived.Test.YtgknfkmojhganaaGreatDiH
namespace Go.Proofs.YtgknfkmojhganaaGreat.Di
open Go.RowKit
open Go.Proofs.YtgknfkmojhganaaGreat.Tp
set_option linter.unusedVariables false

/-- Through whom: one less than what th holds. -/
def tv (l : List Nat) : List Value := l.map (fun (x : Nat) => Value.int .i64 ((x : Int) - 1))
theorem tv_len (l : List Nat) : (tv l).length = l.length * 1 := by simp [tv]
theorem tv_at (l : List Nat) (i : Nat) (h : i < l.length) : (tv l)[i]? = some (.int .i64 (((l.getD i 0 : Nat) : Int) - 1)) := by
  unfold tv
  rw [List.getElem?_map, List.getElem?_eq_getElem h, List.getD_eq_getElem?_getD, List.getElem?_eq_getElem h]
  rfl
theorem tv_one (l : List Nat) : ∀ u ∈ tv l, u.oneCell' = true := by
  intro u hu
  obtain ⟨x, -, rfl⟩ := List.mem_map.1 hu
  rfl
theorem tv_set (l : List Nat) (k x : Nat) : tv (l.set k (x + 1)) = (tv l).set k (.int .i64 (x : Int)) := by
  unfold tv
  rw [List.map_set]
  congr 2
  omega
theorem Row.thr {w : World} {B n : Nat} {A : Option Addr} {l : List Nat} (h : Row w B 1 A n (tv l)) {i : Nat} (hi : i < n) : ∃ b off, A = some ⟨b, off, none⟩ ∧ B ≤ b ∧ b < w.heap.size ∧ w.cell? ⟨b, off + i, none⟩ = some (.int .i64 (((l.getD i 0 : Nat) : Int) - 1)) := by
  obtain ⟨b, off, e, hB, hlt, hc⟩ := h.mem (by omega)
  have hl := h.len
  rw [tv_len] at hl
  exact ⟨b, off, e, hB, hlt, hc _ _ (tv_at l i (by omega))⟩

set_option maxRecDepth 100000 in
set_option maxHeartbeats 400000 in
/-- Upward's test: is it reached? -/
theorem upq_call (q g n c : Nat) (A : Option Addr) (th : List Nat) (w : World) (hg : w.cell? ⟨g, 0, none⟩ = some (.slice A n c)) (hr : Row w 0 1 A n (tv th)) (hq : q < n) :
    Calls Tryz.prog 123 (#[.int .i64 (q : Int)] ++ #[.pointer (some ⟨g, 0, none⟩)]) w fun e w' => e = .returned (.bool (decide (0 < th.getD q 0))) ∧ w = w' := by
  obtain ⟨b, off, rfl, -, -, y0⟩ := hr.thr hq
  have j0 : (0 : Int) ≤ (q : Int) := by omega
  have j1 : (q : Int) < (n : Int) := by omega
  show Calls Tryz.prog 123 #[.int .i64 (q : Int), .pointer (some ⟨g, 0, none⟩)] w _
  clear hr
  generalize th.getD q 0 = x at *
  by_cases hx : 0 < x
  · have e1 : (((x : Int) - 1) == -1) = false := beq_eq_false_iff_ne.2 (by omega)
    have e2 : (((x : Int) - 1) != -1) = true := by rw [bne, e1]; rfl
    have HX := Lib.hid (decide_eq_true hx)
    clear hx
    go_enter Tryz.func123, Tryz.ntmps123
    go_wp2_with fail
    go_ret
    exact ⟨by rw [HX.out]; first | rfl | simp [e1], rfl⟩
  · obtain rfl : x = 0 := by omega
    have y1 : w.cell? ⟨b, off + q, none⟩ = some (.int .i64 (-1)) := y0
    clear y0
    go_enter Tryz.func123, Tryz.ntmps123
    go_wp2_with fail
    go_ret
    exact ⟨by first | rfl | simp, rfl⟩

end Go.Proofs.YtgknfkmojhganaaGreat.Di
