import Derived.Test.YtamcjhibdcbdnaaCApA
namespace Go.Proofs.Ytamcjhibdcbdnaa.Cl
open Go.RowKit
open Go.Proofs.Ytamcjhibdcbdnaa.Tp
set_option linter.unusedVariables false

set_option maxRecDepth 100000 in
set_option maxHeartbeats 400000 in
theorem newestHas_any (m B : Nat) (c : Cl) (v : Vl) (b : Nat) (w : World) (h : CL w B c v) (hok : Ok m c) (hm : m ≤ 100) (hb : b ≤ 3) :
    Calls Try.prog 69 #[.agg (cv c v), .int .i64 (b : Int)] w fun e w' => e = .returned (.bool (has (newest c) b)) ∧ Below w.heap.size w w' := by
  have s1 := hok.s1
  have s2 := hok.s2
  have hs := hok.sb (c.s.length - 1) (by omega)
  have HB0 := Lib.hid (box_below w (.cells (cv c v) 25))
  have hrow := heap_alloc_new w (.cells (cv c v) 25)
  obtain ⟨c0, c1, c2, c3⟩ := cvCells _ _ _ _ _ _ hrow
  obtain ⟨b1, off1, hA1, -, -, t0⟩ := (h.below HB0.out).r1.int (i := c.s.length - 1) (by omega)
  rw [hA1] at c1
  have hd := has_dec (c.s.getD (c.s.length - 1) 0) b hs hb
  have hn : newest c = c.s.getD (c.s.length - 1) 0 := rfl
  rw [hn]
  clear hrow h hok hA1 hn
  generalize c.s.getD (c.s.length - 1) 0 = x at *
  have j0 : (0 : Int) ≤ (c.s.length : Int) - 1 := by omega
  have j1 : (c.s.length : Int) - 1 < (c.s.length : Int) := by omega
  have j2 : ((c.s.length : Int) - 1).toNat = c.s.length - 1 := by omega
  cases hH : has x b with
  | true =>
    rw [hH] at hd
    clear hH
    have hd2 : (bits .and .i64 (x : Int) (b : Int) != 0) = true := by
      have : (bits .and .i64 (x : Int) (b : Int) == 0) = false := hd
      rw [bne, this]; rfl
    clear hd
    go_enter Try.func69, Try.ntmps69
    go_wp2_with fail
    go_ret
    exact ⟨by first | rfl | simp [hd2], HB0.out⟩
  | false =>
    rw [hH] at hd
    clear hH
    have hd2 : (bits .and .i64 (x : Int) (b : Int) != 0) = false := by
      have : (bits .and .i64 (x : Int) (b : Int) == 0) = true := hd
      rw [bne, this]; rfl
    clear hd
    go_enter Try.func69, Try.ntmps69
    go_wp2_with fail
    go_ret
    exact ⟨by first | rfl | simp [hd2], HB0.out⟩

end Go.Proofs.Ytamcjhibdcbdnaa.Cl
