import Derived.Test.YtamcjhibdcbdnaaCAp4
import Derived.RegionTactic
import Derived.Deep.AppendLies
namespace Go.Proofs.Ytamcjhibdcbdnaa.Cl
open Go.RowKit
open Go.Proofs.Ytamcjhibdcbdnaa.Tp
set_option linter.unusedVariables false

set_option maxRecDepth 100000 in
set_option maxHeartbeats 1000000 in
theorem ap3 (m B : Nat) (c : Cl) (v : Vl) (i : Nat) (hi : i < c.r.length) (w : World) (h : CL w B c v) (hok : Ok m c) (hm : m ≤ 90) :
    Calls Try.prog 24 #[.agg (cv c v), .agg (ec 3 i 0 0)] w (RPost ⟨c.f, c.s, c.r, c.p ++ [(rd c.r i).1]⟩ w) := by
  have s1 := hok.s1
  have s2 := hok.s2
  have r1 := hok.r1
  have p2 := hok.p2
  have e121 : ((c.s.length : Int) == 121) = false := beq_eq_false_iff_ne.2 (by omega)
  have e120 : ((c.p.length : Int) == 120) = false := beq_eq_false_iff_ne.2 (by omega)
  have e121' : ¬ ((c.s.length : Int) = 121) := by omega
  have e120' : ¬ ((c.p.length : Int) = 120) := by omega
  have HOK := Lib.hid hok
  have HC := Lib.hid h
  have HGOOD := Lib.hid (show Good c ⟨3, i, 0, 0⟩ from .inr (.inr (.inl ⟨rfl, hi, rfl, rfl⟩)))
  have a1 := (heap_alloc_old ((w.alloc (.cells (cv c v) 25)).alloc (.cells (ec 3 i 0 0) 27)) (.cells zC 25) (by simp; omega)).trans ((heap_alloc_old (w.alloc (.cells (cv c v) 25)) (.cells (ec 3 i 0 0) 27) (by simp)).trans (heap_alloc_new w (.cells (cv c v) 25)))
  have a2 : (((w.alloc (.cells (cv c v) 25)).alloc (.cells (ec 3 i 0 0) 27)).alloc (.cells zC 25)).heap[w.heap.size + 1]? = some (.cells (ec 3 i 0 0) 27 (0, 0)) := by
    have := heap_alloc_new (w.alloc (.cells (cv c v) 25)) (.cells (ec 3 i 0 0) 27)
    rw [show (w.alloc (.cells (cv c v) 25)).heap.size = w.heap.size + 1 by simp] at this
    exact (heap_alloc_old _ _ (by simp)).trans this
  have a3 : (((w.alloc (.cells (cv c v) 25)).alloc (.cells (ec 3 i 0 0) 27)).alloc (.cells zC 25)).heap[w.heap.size + 1 + 1]? = some (.cells zC 25 (0, 0)) := by
    have := heap_alloc_new ((w.alloc (.cells (cv c v) 25)).alloc (.cells (ec 3 i 0 0) 27)) (.cells zC 25)
    simpa using this
  have hb : Below w.heap.size w (((w.alloc (.cells (cv c v) 25)).alloc (.cells (ec 3 i 0 0) 27)).alloc (.cells zC 25)) := (((Below.refl _ w).alloc (Nat.le_refl _) _).alloc (by simp) _).alloc (by simp; omega) _
  have A1 := Lib.hid a1
  have A2 := Lib.hid a2
  have A3 := Lib.hid a3
  have HB := Lib.hid hb
  clear h hok a1 a2 a3 hb
  go_enter Try.func24, Try.ntmps24
  unfold zC at A1 A2 A3 HB
  obtain ⟨c0, c1, c2, c3⟩ := cvCells _ _ _ _ _ _ A1.out
  obtain ⟨x0, x1, x2, x3⟩ := ecCells A2.out
  have hch : ∀ w', CL w' B c v → Calls Try.prog 21 #[.agg #[.bool c.f, .slice v.A1 c.s.length v.c1, .slice v.A2 c.r.length v.c2, .slice v.A3 c.p.length v.c3]] w' fun e w'' => e = .returned (.int .i64 0) ∧ Below w'.heap.size w' w'' := fun w' hc => check_any m B c v w' hc HOK.out (by omega)
  have hfi : ∀ w', Calls Try.prog 64 #[.agg #[.bool c.f, .slice v.A1 c.s.length v.c1, .slice v.A2 c.r.length v.c2, .slice v.A3 c.p.length v.c3], .agg #[.int .i64 3, .int .i64 (i : Int), .int .i64 0, .int .i64 0]] w' fun e w'' => e = .returned (.bool true) ∧ Below w'.heap.size w' w'' := fun w' => fits_any c v ⟨3, i, 0, 0⟩ w' r1 HGOOD.out
  have hco : ∀ w', CL w' B c v → Calls Try.prog 65 #[.agg #[.bool c.f, .slice v.A1 c.s.length v.c1, .slice v.A2 c.r.length v.c2, .slice v.A3 c.p.length v.c3]] w' fun e w'' => ∃ v', e = .returned (.agg (cv c v')) ∧ Own w'' w'.heap.size c v' ∧ Below w'.heap.size w' w'' := fun w' hc => copyOf_any m B c v w' hc HOK.out (by omega)
  have HCH := Lib.hid hch
  have HFI := Lib.hid hfi
  have HCO := Lib.hid hco
  clear hch hfi hco
  go_wp2_with fail
  refine (HCH.out _ (HC.out.below HB.out)).mono ?_
  rintro e w1 ⟨rfl, hb1⟩
  have B1 := Lib.hid ((hb1.block _ (row_lt A1.out)).trans A1.out)
  have B2 := Lib.hid ((hb1.block _ (row_lt A2.out)).trans A2.out)
  have B3 := Lib.hid ((hb1.block _ (row_lt A3.out)).trans A3.out)
  have HB1 := Lib.hid (HB.out.trans (hb1.mono HB.out.size))
  clear hb1 c0 c1 c2 c3 x0 x1 x2 x3
  obtain ⟨c0, c1, c2, c3⟩ := cvCells _ _ _ _ _ _ B1.out
  obtain ⟨x0, x1, x2, x3⟩ := ecCells B2.out
  go_wp2_with fail
  refine (HFI.out _).mono ?_
  rintro e w2 ⟨rfl, hb2⟩
  have C1 := Lib.hid ((hb2.block _ (row_lt B1.out)).trans B1.out)
  have C2 := Lib.hid ((hb2.block _ (row_lt B2.out)).trans B2.out)
  have C3 := Lib.hid ((hb2.block _ (row_lt B3.out)).trans B3.out)
  have HB2 := Lib.hid (HB1.out.trans (hb2.mono HB1.out.size))
  clear hb2 c0 c1 c2 c3 x0 x1 x2 x3
  obtain ⟨c0, c1, c2, c3⟩ := cvCells _ _ _ _ _ _ C1.out
  obtain ⟨x0, x1, x2, x3⟩ := ecCells C2.out
  go_wp2_with fail
  refine (HCO.out _ (HC.out.below HB2.out)).mono ?_
  rintro e w3 ⟨u, rfl, hown, hb3⟩
  have D1 := Lib.hid ((hb3.block _ (row_lt C1.out)).trans C1.out)
  have D2 := Lib.hid ((hb3.block _ (row_lt C2.out)).trans C2.out)
  have D3 := Lib.hid ((hb3.block _ (row_lt C3.out)).trans C3.out)
  have HB3 := Lib.hid (HB2.out.trans (hb3.mono HB2.out.size))
  have HOWN := Lib.hid hown
  have HL3 := Lib.hid hb3.size
  clear hb3 hown c0 c1 c2 c3 x0 x1 x2 x3
  have l2 : w.heap.size + 1 + 1 < w2.heap.size := row_lt C3.out
  have l3 : w2.heap.size ≤ w3.heap.size := HL3.out
  have E1 := Lib.hid ((heap_alloc_old w3 (.cells (cv c u) 25) (row_lt D1.out)).trans D1.out)
  have E2 := Lib.hid ((heap_alloc_old w3 (.cells (cv c u) 25) (row_lt D2.out)).trans D2.out)
  have E3 := Lib.hid ((heap_alloc_old w3 (.cells (cv c u) 25) (row_lt D3.out)).trans D3.out)
  have EG := Lib.hid (heap_alloc_new w3 (.cells (cv c u) 25))
  have HB4 := Lib.hid (HB3.out.trans ((box_below w3 (.cells (cv c u) 25)).mono HB3.out.size))
  have HO4 := Lib.hid (HOWN.out.below (box_below w3 (.cells (cv c u) 25)))
  have lG := row_lt EG.out
  generalize hW4 : w3.alloc (.cells (cv c u) 25) = W4 at *
  have HW4 := Lib.hid hW4
  clear hW4
  obtain ⟨b2, off2, hA2, -, -, t0, t1⟩ := (HC.out.below HB4.out).r2.rep hi
  obtain ⟨c0, c1, c2, c3⟩ := cvCells _ _ _ _ _ _ E1.out
  rw [hA2] at c2
  obtain ⟨x0, x1, x2, x3⟩ := ecCells E2.out
  obtain ⟨d0, d1, d2, d3⟩ := cvCells _ _ _ _ _ _ EG.out
  have u1 : (0 : Int) ≤ (i : Int) := Int.natCast_nonneg i
  have u3 : (i : Int) < (c.r.length : Int) := Int.ofNat_lt.2 hi
  obtain ⟨i0, hi1, hz0, hz1, hz2⟩ := info_parts zinfo3
  have HI := Lib.hid hi1
  have HI0 := Lib.hid hz0
  have HI1 := Lib.hid hz1
  have HI2 := Lib.hid hz2
  clear hi1 hz0 hz1 hz2
  have hpn : c.p.length ≤ 1000 := by omega
  go_wp2_with (with_reducible (show wpList _ _ _ (⟨none, .store 25 (.tmp 6) (.tmp 39), _, _, _, _⟩ :: _) _ _); refine wpList_store_row (o := ⟨none, .store 25 (.tmp 6) (.tmp 39), _, _, _, _⟩) rfl 25 (.tmp 6) (.tmp 39) rfl w3.heap.size (cv c u) rfl rfl 25 zC (heap_alloc_new _ _) (info25 _ _) rfl (cv_one _ _) ?_; rw [new_set, HW4.out])
  have hbs : w2.heap.size ≤ (W4.alloc (.cells #[.int .i64 (((rd c.r i).1 : Nat) : Int)] 3)).heap.size := by simp; omega
  have hal : (W4.alloc (.cells #[.int .i64 (((rd c.r i).1 : Nat) : Int)] 3)).cell? ⟨w3.heap.size, 3, none⟩ = some (.slice u.A3 c.p.length u.c3) := (World.cell?_alloc_lt _ _ _ (by show w3.heap.size < _; omega)).trans d3
  go_region_law (first
    | ((refine app_step (by rfl) (.tmp 66) (.tmp 74) w2.heap.size 0 22 3 (by rfl) i0 (.int .i64 0) 1 8 Try.underlying22 HI.out HI0.out HI1.out HI2.out rfl (by omega) (.slice u.A3 c.p.length u.c3) c.p.length (iv c.p) (by rfl) ?_ (some ⟨W4.heap.size, 0, none⟩) 1 1 [.int .i64 (((rd c.r i).1 : Nat) : Int)] (by rfl) ?_ (by simp [Value.oneCell']) (by omega) (by omega) hbs ?_); (exact HO4.out.o3.alloc _); (exact (new_one W4 _ _).drew); (intro v' w6 hown hgr0 _; have hgr := gb_undrew hgr0; obtain ⟨A', c', rfl⟩ := own_form hown; have HOWN6 := Lib.hid hown; have HGR := Lib.hid hgr; have J1 := (hgr.block w3.heap.size (by simp; omega) (fun e => by have := (HOWN.out.o3.lt _ e.symm).2; omega)).trans ((heap_alloc_old _ _ lG).trans EG.out); have J3 := Lib.hid ((far_block HO4.out.o3 hgr (w.heap.size + 1 + 1) (by omega) (by omega)).trans E3.out); have JG := Lib.hid J1; clear hown hgr hgr0 hal d0 d1 d2 d3 x0 x1 x2 x3 c0 c1 c2 c3; obtain ⟨d0, d1, d2, d3⟩ := cvCells _ _ _ _ _ _ J1; have fd3 : w6.frozen? ⟨w3.heap.size, 3, none⟩ = false := frozen_of_row _ _ _ _ _ J1; obtain ⟨W7, hW7⟩ : ∃ W7, w6.setCell ⟨w3.heap.size, 3, none⟩ (.slice A' (c.p.length + 1) c') = W7 := ⟨_, rfl⟩; have e7 : W7 = w6.setRow w3.heap.size (cv ⟨c.f, c.s, c.r, c.p ++ [(rd c.r i).1]⟩ ⟨u.A1, u.c1, u.A2, u.c2, A', c'⟩) := (by rw [← hW7, setCell_eq_setRow _ _ _ _ _ _ _ J1, cv_set3 c u (rd c.r i).1 A' c']); have K1 := Lib.hid (show W7.heap[w3.heap.size]? = some (.cells (cv ⟨c.f, c.s, c.r, c.p ++ [(rd c.r i).1]⟩ ⟨u.A1, u.c1, u.A2, u.c2, A', c'⟩) 25 (0, 0)) from (by rw [e7]; exact setRow_heap _ _ _ _ _ _ J1)); have K3 := Lib.hid (show W7.heap[w.heap.size + 1 + 1]? = some (.cells zC 25 (0, 0)) from (by rw [e7]; exact (setRow_other _ _ _ _ (by omega)).trans J3.out)); have E7 := Lib.hid e7; have HBW := Lib.hid (far_below HB4.out HO4.out.o3 HGR.out (by omega)); have HCW := Lib.hid (own_app3 (b := (rd c.r i).1) HO4.out HGR.out (by have := HOWN6.out; rw [iv_snoc]; exact this)); have HNQ := Lib.hid (show NQ w3.heap.size ⟨c.f, c.s, c.r, c.p ++ [(rd c.r i).1]⟩ ⟨u.A1, u.c1, u.A2, u.c2, A', c'⟩ from ⟨nq_own HO4.out.o1 EG.out (by decide), nq_own HO4.out.o2 EG.out (by decide), fun b' off _ => nq_own HOWN6.out JG.out (by decide) b' off (by omega)⟩); obtain ⟨z0, z1, z2, z3⟩ := cvCells _ _ _ _ _ _ K1.out; obtain ⟨j0, j1, j2, j3, j4, j5, j6, j7⟩ := zCells (g := w.heap.size + 1 + 1) K3.out; clear J1 e7))
    )
  all_goals
    go_wp2_with fail
    rw [set4row (g := w.heap.size + 1 + 1) K3.out rfl]
    have hcv : (#[.bool c.f, .slice u.A1 c.s.length u.c1, .slice u.A2 c.r.length u.c2, .slice A' (c.p.length + 1) c'] : Array Value) = cv ⟨c.f, c.s, c.r, c.p ++ [(rd c.r i).1]⟩ ⟨u.A1, u.c1, u.A2, u.c2, A', c'⟩ := by simp [cv]
    rw [hcv]
    refine bodyPost_ret (v := .tuple #[.agg (cv ⟨c.f, c.s, c.r, c.p ++ [(rd c.r i).1]⟩ ⟨u.A1, u.c1, u.A2, u.c2, A', c'⟩), .int .i64 0]) (results_cell_row2 (fn := Try.f24) (p := 4) (u := 5) rfl _ _ (w.heap.size + 1 + 1) 25 (cv ⟨c.f, c.s, c.r, c.p ++ [(rd c.r i).1]⟩ ⟨u.A1, u.c1, u.A2, u.c2, A', c'⟩) (0, 0) _ rfl (setRow_heap _ _ _ _ _ _ K3.out) Try.underlying25 rfl (info25 _ _)) rfl ⟨_, rfl, ?_, ?_⟩
    · rw [E7.out]
      exact ((HCW.out.setq HNQ.out _).set (g := w.heap.size + 1 + 1) (by omega) _).base (by omega)
    · rw [E7.out]
      exact below_setRow (g := w.heap.size + 1 + 1) (below_setRow HBW.out (by omega) _) (by omega) _

end Go.Proofs.Ytamcjhibdcbdnaa.Cl
