import Derived.Test.YtamcjhibdcbdnaaCRef0
import Derived.Laws.ResultCell
import Derived.Laws.OwnMore
namespace Go.Proofs.Ytamcjhibdcbdnaa.Cl
open Go.RowKit
open Go.Proofs.Ytamcjhibdcbdnaa.Tp
set_option linter.unusedVariables false

set_option maxRecDepth 100000 in
set_option maxHeartbeats 1000000 in
theorem rap1 (m B : Nat) (c : Cl) (v : Vl) (b : Nat) (w : World) (h : CL w B c v) (hok : Ok m c) (hm : m ≤ 90) (hb : b ≤ 3) :
    Calls Try.prog 25 #[.agg (cv c v), .agg (ec 1 0 0 (b : Int))] w (RPost ⟨c.f, c.s ++ [b], c.r, c.p⟩ w) := by
  obtain ⟨-, a1, a2, a3, hb0⟩ := boxes3 w (.cells (cv c v) 25) (.cells (ec 1 0 0 (b : Int)) 27) (.cells zC 25)
  have HC := Lib.hid h
  have HOK := Lib.hid hok
  obtain ⟨s1, s2, r1, r2, p2, sb, rb, pb⟩ := hok
  have SB := Lib.hid sb
  have RB := Lib.hid rb
  have PB := Lib.hid pb
  clear h sb rb pb
  have A1 := Lib.hid a1
  have A2 := Lib.hid a2
  have A3 := Lib.hid a3
  have HB0 := Lib.hid hb0
  clear a1 a2 a3 hb0
  go_enter Try.func25, Try.ntmps25
  go_wp2_with (refine wpList_load_row rfl 25 (.tmp 2) rfl w.heap.size rfl 25 (cv c v) (0, 0) _ A1.out Try.underlying25 rfl (info25 c v) ?_)
  refine (valid_any m B c v _ (HC.out.below HB0.out) HOK.out (by omega)).mono ?_
  rintro e w1 ⟨rfl, hb1⟩
  have B1 := Lib.hid ((hb1.block w.heap.size (row_lt A1.out)).trans A1.out)
  have B2 := Lib.hid ((hb1.block (w.heap.size + 1) (row_lt A2.out)).trans A2.out)
  have B3 := Lib.hid ((hb1.block (w.heap.size + 2) (row_lt A3.out)).trans A3.out)
  have HB1 := Lib.hid (HB0.out.trans (hb1.mono HB0.out.size))
  clear hb1
  obtain ⟨x0, x1, x2, x3⟩ := ecCells B2.out
  obtain ⟨n1, n2, n3⟩ := new_row w1 (ec 0 0 0 0) (ec 1 0 0 0) 27
  have C1 := Lib.hid ((n1.block w.heap.size (row_lt B1.out)).trans B1.out)
  have C2 := Lib.hid ((n1.block (w.heap.size + 1) (row_lt B2.out)).trans B2.out)
  have C3 := Lib.hid ((n1.block (w.heap.size + 2) (row_lt B3.out)).trans B3.out)
  have CY := Lib.hid n2
  have HB2 := Lib.hid (HB1.out.trans (n1.mono HB1.out.size))
  have L2 := Lib.hid n3
  clear n1 n2 n3
  go_wp2_with (first
    | (refine wpList_store_row rfl 27 (.tmp 6) (.tmp 14) rfl w1.heap.size (ec 1 0 0 0) rfl rfl 27 (ec 0 0 0 0) (heap_alloc_new _ _) (info27 _ _ _ _) rfl (ec_one _ _ _ _) ?_)
    | (refine wpList_load_row rfl 25 (.tmp 2) rfl w.heap.size rfl 25 (cv c v) (0, 0) _ C1.out Try.underlying25 rfl (info25 c v) ?_))
  refine (copy_any m B c v _ (HC.out.below HB2.out) HOK.out (by omega)).mono ?_
  rintro e w3 ⟨u, rfl, hown, hb3⟩
  have D1 := Lib.hid ((hb3.block w.heap.size (row_lt C1.out)).trans C1.out)
  have D2 := Lib.hid ((hb3.block (w.heap.size + 1) (row_lt C2.out)).trans C2.out)
  have D3 := Lib.hid ((hb3.block (w.heap.size + 2) (row_lt C3.out)).trans C3.out)
  have DY := Lib.hid ((hb3.block w1.heap.size (row_lt CY.out)).trans CY.out)
  have HB3 := Lib.hid (HB2.out.trans (hb3.mono HB2.out.size))
  have g1 : w.heap.size + 2 < w1.heap.size := row_lt B3.out
  have g2 := L2.out
  have g3 := hb3.size
  have hown1 := Own.mk (own_base hown.o1 g2) (own_base hown.o2 g2) (own_base hown.o3 g2) hown.ne
  have g4 : w1.heap.size + 1 ≤ w3.heap.size := Nat.le_trans g2 g3
  have hown2 := hown1.set (show w.heap.size < w1.heap.size + 1 by omega) (cv c u)
  have E1 := Lib.hid (setRow_heap _ _ _ (cv c u) _ _ D1.out)
  have E2 := Lib.hid ((setRow_other w3 w.heap.size (w.heap.size + 1) (cv c u) (by omega)).trans D2.out)
  have E3 := Lib.hid ((setRow_other w3 w.heap.size (w.heap.size + 2) (cv c u) (by omega)).trans D3.out)
  have EY := Lib.hid ((setRow_other w3 w.heap.size w1.heap.size (cv c u) (by omega)).trans DY.out)
  have HB4 := Lib.hid (below_setRow HB3.out (Nat.le_refl _) (cv c u))
  have g5 : w1.heap.size + 1 ≤ (w3.setRow w.heap.size (cv c u)).heap.size := by rw [setRow_size]; exact g4
  have HOWN := Lib.hid hown2
  clear hb3 hown hown1 hown2 x0 x1 x2 x3 g3 g2 g4
  generalize hW4 : w3.setRow w.heap.size (cv c u) = W4 at *
  have HW4 := Lib.hid hW4
  clear hW4
  obtain ⟨c0, c1, c2, c3⟩ := cvCells _ _ _ _ _ _ E1.out
  obtain ⟨x0, x1, x2, x3⟩ := ecCells E2.out
  obtain ⟨y0, y1, y2, y3⟩ := ecCells EY.out
  have fy3 : W4.frozen? ⟨w1.heap.size, 3, none⟩ = false := frozen_of_row _ _ _ _ _ EY.out
  obtain ⟨W5, hW5⟩ : ∃ W5, W4.setCell ⟨w1.heap.size, 3, none⟩ (.int .i64 (b : Int)) = W5 := ⟨_, rfl⟩
  have e5 : W5 = W4.setRow w1.heap.size (ec 1 0 0 b) := by rw [← hW5]; exact setCell_eq_setRow _ _ _ _ _ _ _ EY.out
  have F1 := Lib.hid (show W5.heap[w.heap.size]? = some (.cells (cv c u) 25 (0, 0)) by rw [e5]; exact (setRow_other _ _ _ _ (by omega)).trans E1.out)
  have F2 := Lib.hid (show W5.heap[w.heap.size + 1]? = some (.cells (ec 1 0 0 b) 27 (0, 0)) by rw [e5]; exact (setRow_other _ _ _ _ (by omega)).trans E2.out)
  have F3 := Lib.hid (show W5.heap[w.heap.size + 2]? = some (.cells zC 25 (0, 0)) by rw [e5]; exact (setRow_other _ _ _ _ (by omega)).trans E3.out)
  have FY := Lib.hid (show W5.heap[w1.heap.size]? = some (.cells (ec 1 0 0 b) 27 (0, 0)) by rw [e5]; exact setRow_heap _ _ _ _ _ _ EY.out)
  have HB5 := Lib.hid (show Below w.heap.size w W5 by rw [e5]; exact below_setRow HB4.out (by omega) _)
  have HO5 := Lib.hid (show Own W5 (w1.heap.size + 1) c u by rw [e5]; exact HOWN.out.set (by omega) _)
  have g6 : w1.heap.size + 1 ≤ W5.heap.size := by rw [e5, setRow_size]; exact g5
  clear e5
  obtain ⟨d0, d1, d2, d3⟩ := cvCells _ _ _ _ _ _ F1.out
  obtain ⟨p0, p1, p2', p3⟩ := ecCells F2.out
  obtain ⟨q0, q1, q2, q3⟩ := ecCells FY.out
  have u1 : (0 : Int) ≤ (b : Int) := by omega
  have u2 : (b : Int) ≤ 3 := by omega
  have e120 : decide ((120 : Int) < (c.s.length : Int)) = false := decide_eq_false (by omega)
  obtain ⟨i0, hi, hz0, hz1, hz2⟩ := info_parts zinfo3
  have HI := Lib.hid hi
  have HI0 := Lib.hid hz0
  have HI1 := Lib.hid hz1
  have HI2 := Lib.hid hz2
  have hsn : c.s.length ≤ 1000 := by omega
  clear hi hz0 hz1 hz2 c0 c1 c2 c3
  go_wp2_with (first
    | (refine wpList_store_row rfl 25 (.tmp 2) (.tmp 16) rfl w.heap.size (cv c u) rfl rfl 25 (cv c v) D1.out (info25 _ _) rfl (cv_one _ _) ?_; rw [HW4.out])
    | (go_at_call 55; refine (in_yes _ _ _ _ u1 u2).mono ?_; rintro e w' ⟨rfl, rfl⟩)
    | (at_builtin; refine wpList_append_own _ rfl (.tmp 40) (.tmp 43) 22 rfl (w1.heap.size + 1) 3 i0 (.int .i64 0) 1 8 Try.underlying22 HI.out HI0.out HI1.out HI2.out rfl (by decide) _ c.s.length (iv c.s) rfl (HO5.out.o1.alloc _) ⟨W5.heap.size, 0, none⟩ 1 1 [.int .i64 (b : Int)] rfl rfl ?_ (by simp [Value.oneCell']) (by unfold maxLen; omega) (by omega) (by simp; omega) ?_; (go_loud (first | exact cell_one_new _ _ _)); intro v' w6 hown hgr _; obtain ⟨A', c', rfl⟩ := own_form hown; have HOWN6 := Lib.hid hown; have HGR := Lib.hid hgr; have J1 := (far_block HO5.out.o1 hgr w.heap.size (by omega) (by omega)).trans F1.out; have J3 := Lib.hid ((far_block HO5.out.o1 hgr (w.heap.size + 2) (by omega) (by omega)).trans F3.out); clear hown hgr d0 d1 d2 d3 p0 p1 p2' p3 q0 q1 q2 q3 x0 x1 x2 x3 y0 y1 y2 y3 hW5 fy3; obtain ⟨d0, d1, d2, d3⟩ := cvCells _ _ _ _ _ _ J1; have fd1 : w6.frozen? ⟨w.heap.size, 1, none⟩ = false := frozen_of_row _ _ _ _ _ J1; obtain ⟨W7, hW7⟩ : ∃ W7, w6.setCell ⟨w.heap.size, 1, none⟩ (.slice A' (c.s.length + 1) c') = W7 := ⟨_, rfl⟩; have e7 : W7 = w6.setRow w.heap.size (cv ⟨c.f, c.s ++ [b], c.r, c.p⟩ ⟨A', c', u.A2, u.c2, u.A3, u.c3⟩) := (by rw [← hW7, setCell_eq_setRow _ _ _ _ _ _ _ J1, cv_set1 c u b A' c']); have K1 := Lib.hid (show W7.heap[w.heap.size]? = some (.cells (cv ⟨c.f, c.s ++ [b], c.r, c.p⟩ ⟨A', c', u.A2, u.c2, u.A3, u.c3⟩) 25 (0, 0)) from (by rw [e7]; exact setRow_heap _ _ _ _ _ _ J1)); have K3 := Lib.hid (show W7.heap[w.heap.size + 2]? = some (.cells zC 25 (0, 0)) from (by rw [e7]; exact (setRow_other _ _ _ _ (by omega)).trans J3.out)); have E7 := Lib.hid e7; clear J1 e7)
    | (refine wpList_load_row rfl 25 (.tmp 2) rfl w.heap.size rfl 25 (cv ⟨c.f, c.s ++ [b], c.r, c.p⟩ ⟨A', c', u.A2, u.c2, u.A3, u.c3⟩) (0, 0) _ K1.out Try.underlying25 rfl (info25 _ _) ?_)
    | (refine wpList_store_row rfl 25 (.tmp 4) (.tmp 46) rfl (w.heap.size + 2) (cv ⟨c.f, c.s ++ [b], c.r, c.p⟩ ⟨A', c', u.A2, u.c2, u.A3, u.c3⟩) rfl rfl 25 zC K3.out (info25 _ _) rfl (cv_one _ _) ?_))
  refine bodyPost_ret (v := .tuple #[.agg (cv ⟨c.f, c.s ++ [b], c.r, c.p⟩ ⟨A', c', u.A2, u.c2, u.A3, u.c3⟩), .int .i64 0]) (results_cell_row2 (fn := Try.f25) (p := 4) (u := 5) rfl _ _ (w.heap.size + 2) 25 (cv ⟨c.f, c.s ++ [b], c.r, c.p⟩ ⟨A', c', u.A2, u.c2, u.A3, u.c3⟩) (0, 0) _ rfl (setRow_heap _ _ _ _ _ _ K3.out) Try.underlying25 rfl (info25 _ _)) rfl ⟨_, rfl, ?_, ?_⟩
  · rw [E7.out]
    exact (((own_app1 (b := b) HO5.out HGR.out (by have := HOWN6.out; rw [iv_snoc]; exact this)).set (by omega) _).set (by omega) _).base (by omega)
  · rw [E7.out]
    exact below_setRow (below_setRow (far_below HB5.out HO5.out.o1 HGR.out (by omega)) (Nat.le_refl _) _) (by omega) _

end Go.Proofs.Ytamcjhibdcbdnaa.Cl
