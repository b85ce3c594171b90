import Derived.Test.YtamcjhibdcbdnaaCRef0
import Derived.Laws.ResultCell
import Derived.Laws.OwnMore
namespace Go.Proofs.Ytamcjhibdcbdnaa.Cl
open Go.RowKit
open Go.Proofs.Ytamcjhibdcbdnaa.Tp
set_option linter.unusedVariables false

set_option maxRecDepth 100000 in
set_option maxHeartbeats 400000 in
theorem rap5 (m B : Nat) (c : Cl) (v : Vl) (i : Nat) (w : World) (h : CL w B c v) (hok : Ok m c) (hm : m ≤ 90) (hi : i < c.r.length) :
    Calls Try.prog 25 #[.agg (cv c v), .agg (ec 4 i (c.p.length : Nat) 0)] w (BPost w) := by
  obtain ⟨-, a1, a2, a3, hb0⟩ := boxes3 w (.cells (cv c v) 25) (.cells (ec 4 i (c.p.length : Nat) 0) 27) (.cells zC 25)
  have HC := Lib.hid h
  have HOK := Lib.hid hok
  obtain ⟨s1, s2, r1, r2, p2, sb, rb, pb⟩ := hok
  have SB := Lib.hid sb
  have RB := Lib.hid rb
  have PB := Lib.hid pb
  clear h sb rb pb
  have A1 := Lib.hid a1
  have A2 := Lib.hid a2
  have A3 := Lib.hid a3
  have HB0 := Lib.hid hb0
  clear a1 a2 a3 hb0
  go_enter Try.func25, Try.ntmps25
  go_wp2_with (refine wpList_load_row rfl 25 (.tmp 2) rfl w.heap.size rfl 25 (cv c v) (0, 0) _ A1.out Try.underlying25 rfl (info25 c v) ?_)
  refine (valid_any m B c v _ (HC.out.below HB0.out) HOK.out (by omega)).mono ?_
  rintro e w1 ⟨rfl, hb1⟩
  have B1 := Lib.hid ((hb1.block w.heap.size (row_lt A1.out)).trans A1.out)
  have B2 := Lib.hid ((hb1.block (w.heap.size + 1) (row_lt A2.out)).trans A2.out)
  have B3 := Lib.hid ((hb1.block (w.heap.size + 2) (row_lt A3.out)).trans A3.out)
  have HB1 := Lib.hid (HB0.out.trans (hb1.mono HB0.out.size))
  clear hb1
  obtain ⟨x0, x1, x2, x3⟩ := ecCells B2.out
  obtain ⟨n1, n2, n3⟩ := new_row w1 (ec 0 0 0 0) (ec 4 0 0 0) 27
  have C1 := Lib.hid ((n1.block w.heap.size (row_lt B1.out)).trans B1.out)
  have C2 := Lib.hid ((n1.block (w.heap.size + 1) (row_lt B2.out)).trans B2.out)
  have C3 := Lib.hid ((n1.block (w.heap.size + 2) (row_lt B3.out)).trans B3.out)
  have CY := Lib.hid n2
  have HB2 := Lib.hid (HB1.out.trans (n1.mono HB1.out.size))
  have L2 := Lib.hid n3
  clear n1 n2 n3
  go_wp2_with (first
    | (refine wpList_store_row rfl 27 (.tmp 6) (.tmp 14) rfl w1.heap.size (ec 4 0 0 0) rfl rfl 27 (ec 0 0 0 0) (heap_alloc_new _ _) (info27 _ _ _ _) rfl (ec_one _ _ _ _) ?_)
    | (refine wpList_load_row rfl 25 (.tmp 2) rfl w.heap.size rfl 25 (cv c v) (0, 0) _ C1.out Try.underlying25 rfl (info25 c v) ?_))
  refine (copy_any m B c v _ (HC.out.below HB2.out) HOK.out (by omega)).mono ?_
  rintro e w3 ⟨u, rfl, hown, hb3⟩
  have D1 := Lib.hid ((hb3.block w.heap.size (row_lt C1.out)).trans C1.out)
  have D2 := Lib.hid ((hb3.block (w.heap.size + 1) (row_lt C2.out)).trans C2.out)
  have D3 := Lib.hid ((hb3.block (w.heap.size + 2) (row_lt C3.out)).trans C3.out)
  have DY := Lib.hid ((hb3.block w1.heap.size (row_lt CY.out)).trans CY.out)
  have HB3 := Lib.hid (HB2.out.trans (hb3.mono HB2.out.size))
  have g1 : w.heap.size + 2 < w1.heap.size := row_lt B3.out
  have g2 := L2.out
  have g3 := hb3.size
  have hown1 := Own.mk (own_base hown.o1 g2) (own_base hown.o2 g2) (own_base hown.o3 g2) hown.ne
  have g4 : w1.heap.size + 1 ≤ w3.heap.size := Nat.le_trans g2 g3
  have hown2 := hown1.set (show w.heap.size < w1.heap.size + 1 by omega) (cv c u)
  have E1 := Lib.hid (setRow_heap _ _ _ (cv c u) _ _ D1.out)
  have E2 := Lib.hid ((setRow_other w3 w.heap.size (w.heap.size + 1) (cv c u) (by omega)).trans D2.out)
  have E3 := Lib.hid ((setRow_other w3 w.heap.size (w.heap.size + 2) (cv c u) (by omega)).trans D3.out)
  have EY := Lib.hid ((setRow_other w3 w.heap.size w1.heap.size (cv c u) (by omega)).trans DY.out)
  have HB4 := Lib.hid (below_setRow HB3.out (Nat.le_refl _) (cv c u))
  have g5 : w1.heap.size + 1 ≤ (w3.setRow w.heap.size (cv c u)).heap.size := by rw [setRow_size]; exact g4
  have HOWN := Lib.hid hown2
  clear hb3 hown hown1 hown2 x0 x1 x2 x3 g3 g2 g4
  generalize hW4 : w3.setRow w.heap.size (cv c u) = W4 at *
  have HW4 := Lib.hid hW4
  clear hW4
  obtain ⟨c0, c1, c2, c3⟩ := cvCells _ _ _ _ _ _ E1.out
  obtain ⟨x0, x1, x2, x3⟩ := ecCells E2.out
  obtain ⟨y0, y1, y2, y3⟩ := ecCells EY.out
  have fy1 : W4.frozen? ⟨w1.heap.size, 1, none⟩ = false := frozen_of_row _ _ _ _ _ EY.out
  have fy2 : W4.frozen? ⟨w1.heap.size, 2, none⟩ = false := frozen_of_row _ _ _ _ _ EY.out
  obtain ⟨W5, hW5⟩ : ∃ W5, (W4.setCell ⟨w1.heap.size, 1, none⟩ (.int .i64 (i : Int))).setCell ⟨w1.heap.size, 2, none⟩ (.int .i64 ((c.p.length : Nat) : Int)) = W5 := ⟨_, rfl⟩
  have hs1 : (W4.setCell ⟨w1.heap.size, 1, none⟩ (.int .i64 (i : Int))).cell? ⟨w1.heap.size, 2, none⟩ = some (.int .i64 0) := (World.cell?_setCell_other _ _ _ _ (by simp)).trans y2
  have hs2 : (W4.setCell ⟨w1.heap.size, 1, none⟩ (.int .i64 (i : Int))).frozen? ⟨w1.heap.size, 2, none⟩ = false := (World.frozen?_setCell _ _ _ _).trans fy2
  have e5 : W5 = W4.setRow w1.heap.size (ec 4 i (c.p.length : Nat) 0) := by
    rw [← hW5, setCell_eq_setRow _ _ _ _ _ _ _ EY.out]
    rw [setCell_eq_setRow _ _ _ _ _ _ _ (setRow_heap _ _ _ _ _ _ EY.out), setRow_setRow]
    rfl
  have F1 := Lib.hid (show W5.heap[w.heap.size]? = some (.cells (cv c u) 25 (0, 0)) by rw [e5]; exact (setRow_other _ _ _ _ (by omega)).trans E1.out)
  have F2 := Lib.hid (show W5.heap[w.heap.size + 1]? = some (.cells (ec 4 i (c.p.length : Nat) 0) 27 (0, 0)) by rw [e5]; exact (setRow_other _ _ _ _ (by omega)).trans E2.out)
  have F3 := Lib.hid (show W5.heap[w.heap.size + 2]? = some (.cells zC 25 (0, 0)) by rw [e5]; exact (setRow_other _ _ _ _ (by omega)).trans E3.out)
  have FY := Lib.hid (show W5.heap[w1.heap.size]? = some (.cells (ec 4 i (c.p.length : Nat) 0) 27 (0, 0)) by rw [e5]; exact setRow_heap _ _ _ _ _ _ EY.out)
  have HB5 := Lib.hid (show Below w.heap.size w W5 by rw [e5]; exact below_setRow HB4.out (by omega) _)
  have HO5 := Lib.hid (show Own W5 (w1.heap.size + 1) c u by rw [e5]; exact HOWN.out.set (by omega) _)
  have g6 : w1.heap.size + 1 ≤ W5.heap.size := by rw [e5, setRow_size]; exact g5
  clear e5
  obtain ⟨g, hA, hgB, hgl⟩ := own_head HO5.out.o2 (by omega)
  obtain ⟨b, off, eA, -, -, t0, t1⟩ := HO5.out.cl.r2.rep hi
  rw [hA] at eA
  cases eA
  rw [Nat.zero_add] at t0 t1
  obtain ⟨d0, d1, d2, d3⟩ := cvCells _ _ _ _ _ _ F1.out
  rw [hA] at d2
  obtain ⟨p0, p1, p2', p3⟩ := ecCells F2.out
  obtain ⟨q0, q1, q2, q3⟩ := ecCells FY.out
  have u1 : (0 : Int) ≤ (i : Int) := by omega
  have u2 : (i : Int) ≤ (c.r.length : Int) - 1 := by omega
  have u3 : (i : Int) < (c.r.length : Int) := by omega
  have v1 : (2 : Int) ≤ 4 := by omega
  have v2 : (4 : Int) ≤ 4 := by omega
  have r1' : (0 : Int) ≤ ((c.p.length : Nat) : Int) := by omega
  have o2 := HO5.out.o2
  rw [hA] at o2
  have ft0 : W5.frozen? ⟨g, i * 2, none⟩ = false := o2.frozenAt _
  have ft1 : W5.frozen? ⟨g, i * 2 + 1, none⟩ = false := o2.frozenAt _
  clear o2 c0 c1 c2 c3
  have r2' : (c.p.length : Int) - 1 < (c.p.length : Int) := by omega
  obtain ⟨j0, j1, j2, j3, j4, j5, j6, j7⟩ := zCells (g := w.heap.size + 1 + 1) F3.out
  go_wp2_with (refine wpList_store_row rfl 25 (.tmp 2) (.tmp 16) rfl w.heap.size (cv c u) rfl rfl 25 (cv c v) D1.out (info25 _ _) rfl (cv_one _ _) ?_; rw [HW4.out])
  go_region
  go_wp2_with fail
  refine (in_yes _ _ _ _ v1 v2).mono ?_
  rintro e w' ⟨rfl, rfl⟩
  go_wp2_with fail
  refine (in_yes _ _ _ _ u1 u2).mono ?_
  rintro e w' ⟨rfl, rfl⟩
  go_wp2_with fail
  refine (in_no _ _ _ _ r1' r2').mono ?_
  rintro e w' ⟨rfl, rfl⟩
  go_wp2_with fail
  rw [set4row (g := w.heap.size + 1 + 1) F3.out rfl]
  refine bodyPost_ret (v := .tuple #[.agg zC, .int .i64 39]) (results_cell_row2 (fn := Try.f25) (p := 4) (u := 5) rfl _ _ (w.heap.size + 1 + 1) 25 zC (0, 0) _ rfl (setRow_heap _ _ _ _ _ _ F3.out) Try.underlying25 rfl infoz) rfl ⟨rfl, ?_⟩
  exact below_setRow (g := w.heap.size + 1 + 1) HB5.out.drew (by omega) _

end Go.Proofs.Ytamcjhibdcbdnaa.Cl
