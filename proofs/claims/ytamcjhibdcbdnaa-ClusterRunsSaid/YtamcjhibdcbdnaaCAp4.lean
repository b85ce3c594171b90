import Derived.Test.YtamcjhibdcbdnaaCAp1
import Derived.RegionTactic
namespace Go.Proofs.Ytamcjhibdcbdnaa.Cl
open Go.RowKit
open Go.Proofs.Ytamcjhibdcbdnaa.Tp
set_option linter.unusedVariables false

set_option maxRecDepth 100000 in
set_option maxHeartbeats 1000000 in
theorem ap4n (m B : Nat) (c : Cl) (v : Vl) (i q : Nat) (hi : i < c.r.length) (hq : q = c.p.length) (w : World) (h : CL w B c v) (hok : Ok m c) (hm : m ≤ 90) :
    Calls Try.prog 24 #[.agg (cv c v), .agg (ec 4 i q 0)] w (BPost w) := by
  have s1 := hok.s1
  have s2 := hok.s2
  have r1 := hok.r1
  have p2 := hok.p2
  have e121 : ((c.s.length : Int) == 121) = false := beq_eq_false_iff_ne.2 (by omega)
  have e120 : ((c.p.length : Int) == 120) = false := beq_eq_false_iff_ne.2 (by omega)
  have e121' : ¬ ((c.s.length : Int) = 121) := by omega
  have e120' : ¬ ((c.p.length : Int) = 120) := by omega
  have HOK := Lib.hid hok
  have HC := Lib.hid h
  have HGOOD := Lib.hid (show Good c ⟨4, i, q, 0⟩ from .inr (.inr (.inr ⟨rfl, hi, by show q ≤ c.p.length; omega, rfl⟩)))
  have HQN := Lib.hid hq
  clear hq
  have a1 := (heap_alloc_old ((w.alloc (.cells (cv c v) 25)).alloc (.cells (ec 4 i q 0) 27)) (.cells zC 25) (by simp; omega)).trans ((heap_alloc_old (w.alloc (.cells (cv c v) 25)) (.cells (ec 4 i q 0) 27) (by simp)).trans (heap_alloc_new w (.cells (cv c v) 25)))
  have a2 : (((w.alloc (.cells (cv c v) 25)).alloc (.cells (ec 4 i q 0) 27)).alloc (.cells zC 25)).heap[w.heap.size + 1]? = some (.cells (ec 4 i q 0) 27 (0, 0)) := by
    have := heap_alloc_new (w.alloc (.cells (cv c v) 25)) (.cells (ec 4 i q 0) 27)
    rw [show (w.alloc (.cells (cv c v) 25)).heap.size = w.heap.size + 1 by simp] at this
    exact (heap_alloc_old _ _ (by simp)).trans this
  have a3 : (((w.alloc (.cells (cv c v) 25)).alloc (.cells (ec 4 i q 0) 27)).alloc (.cells zC 25)).heap[w.heap.size + 1 + 1]? = some (.cells zC 25 (0, 0)) := by
    have := heap_alloc_new ((w.alloc (.cells (cv c v) 25)).alloc (.cells (ec 4 i q 0) 27)) (.cells zC 25)
    simpa using this
  have hb : Below w.heap.size w (((w.alloc (.cells (cv c v) 25)).alloc (.cells (ec 4 i q 0) 27)).alloc (.cells zC 25)) := (((Below.refl _ w).alloc (Nat.le_refl _) _).alloc (by simp) _).alloc (by simp; omega) _
  have A1 := Lib.hid a1
  have A2 := Lib.hid a2
  have A3 := Lib.hid a3
  have HB := Lib.hid hb
  clear h hok a1 a2 a3 hb
  go_enter Try.func24, Try.ntmps24
  unfold zC at A1 A2 A3 HB
  obtain ⟨c0, c1, c2, c3⟩ := cvCells _ _ _ _ _ _ A1.out
  obtain ⟨x0, x1, x2, x3⟩ := ecCells A2.out
  have hch : ∀ w', CL w' B c v → Calls Try.prog 21 #[.agg #[.bool c.f, .slice v.A1 c.s.length v.c1, .slice v.A2 c.r.length v.c2, .slice v.A3 c.p.length v.c3]] w' fun e w'' => e = .returned (.int .i64 0) ∧ Below w'.heap.size w' w'' := fun w' hc => check_any m B c v w' hc HOK.out (by omega)
  have hfi : ∀ w', Calls Try.prog 64 #[.agg #[.bool c.f, .slice v.A1 c.s.length v.c1, .slice v.A2 c.r.length v.c2, .slice v.A3 c.p.length v.c3], .agg #[.int .i64 4, .int .i64 (i : Int), .int .i64 (q : Int), .int .i64 0]] w' fun e w'' => e = .returned (.bool false) ∧ Below w'.heap.size w' w'' := fun w' => by
    have := fits_any c v ⟨4, i, q, 0⟩ w' r1 HGOOD.out
    rw [show fitB c ⟨4, i, q, 0⟩ = false by simp [fitB, HQN.out]] at this
    exact this
  have hco : ∀ w', CL w' B c v → Calls Try.prog 65 #[.agg #[.bool c.f, .slice v.A1 c.s.length v.c1, .slice v.A2 c.r.length v.c2, .slice v.A3 c.p.length v.c3]] w' fun e w'' => ∃ v', e = .returned (.agg (cv c v')) ∧ Own w'' w'.heap.size c v' ∧ Below w'.heap.size w' w'' := fun w' hc => copyOf_any m B c v w' hc HOK.out (by omega)
  have HCH := Lib.hid hch
  have HFI := Lib.hid hfi
  have HCO := Lib.hid hco
  clear hch hfi hco
  go_wp2_with fail
  refine (HCH.out _ (HC.out.below HB.out)).mono ?_
  rintro e w1 ⟨rfl, hb1⟩
  have B1 := Lib.hid ((hb1.block _ (row_lt A1.out)).trans A1.out)
  have B2 := Lib.hid ((hb1.block _ (row_lt A2.out)).trans A2.out)
  have B3 := Lib.hid ((hb1.block _ (row_lt A3.out)).trans A3.out)
  have HB1 := Lib.hid (HB.out.trans (hb1.mono HB.out.size))
  clear hb1 c0 c1 c2 c3 x0 x1 x2 x3
  obtain ⟨c0, c1, c2, c3⟩ := cvCells _ _ _ _ _ _ B1.out
  obtain ⟨x0, x1, x2, x3⟩ := ecCells B2.out
  go_wp2_with fail
  refine (HFI.out _).mono ?_
  rintro e w2 ⟨rfl, hb2⟩
  have C1 := Lib.hid ((hb2.block _ (row_lt B1.out)).trans B1.out)
  have C2 := Lib.hid ((hb2.block _ (row_lt B2.out)).trans B2.out)
  have C3 := Lib.hid ((hb2.block _ (row_lt B3.out)).trans B3.out)
  have HB2 := Lib.hid (HB1.out.trans (hb2.mono HB1.out.size))
  clear hb2 c0 c1 c2 c3 x0 x1 x2 x3
  obtain ⟨j0, j1, j2, j3, j4, j5, j6, j7⟩ := zCells (g := w.heap.size + 1 + 1) C3.out
  go_wp2_with fail
  rw [set4row (g := w.heap.size + 1 + 1) C3.out rfl]
  refine bodyPost_ret (v := .tuple #[.agg zC, .int .i64 39]) (results_cell_row2 (fn := Try.f24) (p := 4) (u := 5) rfl _ _ (w.heap.size + 1 + 1) 25 zC (0, 0) _ rfl (setRow_heap _ _ _ _ _ _ C3.out) Try.underlying25 rfl infoz) rfl ⟨rfl, ?_⟩
  exact below_setRow (g := w.heap.size + 1 + 1) HB2.out (by omega) _

set_option maxRecDepth 100000 in
set_option maxHeartbeats 1000000 in
theorem ap4 (m B : Nat) (c : Cl) (v : Vl) (i q : Nat) (hi : i < c.r.length) (hq : q < c.p.length) (w : World) (h : CL w B c v) (hok : Ok m c) (hm : m ≤ 90) :
    Calls Try.prog 24 #[.agg (cv c v), .agg (ec 4 i q 0)] w (RPost ⟨c.f, c.s, c.r.set i (c.p.getD q 0, !c.f), c.p⟩ w) := by
  have s1 := hok.s1
  have s2 := hok.s2
  have r1 := hok.r1
  have p2 := hok.p2
  have e121 : ((c.s.length : Int) == 121) = false := beq_eq_false_iff_ne.2 (by omega)
  have e120 : ((c.p.length : Int) == 120) = false := beq_eq_false_iff_ne.2 (by omega)
  have e121' : ¬ ((c.s.length : Int) = 121) := by omega
  have e120' : ¬ ((c.p.length : Int) = 120) := by omega
  have HOK := Lib.hid hok
  have HC := Lib.hid h
  have HGOOD := Lib.hid (show Good c ⟨4, i, q, 0⟩ from .inr (.inr (.inr ⟨rfl, hi, by show q ≤ c.p.length; omega, rfl⟩)))
  have a1 := (heap_alloc_old ((w.alloc (.cells (cv c v) 25)).alloc (.cells (ec 4 i q 0) 27)) (.cells zC 25) (by simp; omega)).trans ((heap_alloc_old (w.alloc (.cells (cv c v) 25)) (.cells (ec 4 i q 0) 27) (by simp)).trans (heap_alloc_new w (.cells (cv c v) 25)))
  have a2 : (((w.alloc (.cells (cv c v) 25)).alloc (.cells (ec 4 i q 0) 27)).alloc (.cells zC 25)).heap[w.heap.size + 1]? = some (.cells (ec 4 i q 0) 27 (0, 0)) := by
    have := heap_alloc_new (w.alloc (.cells (cv c v) 25)) (.cells (ec 4 i q 0) 27)
    rw [show (w.alloc (.cells (cv c v) 25)).heap.size = w.heap.size + 1 by simp] at this
    exact (heap_alloc_old _ _ (by simp)).trans this
  have a3 : (((w.alloc (.cells (cv c v) 25)).alloc (.cells (ec 4 i q 0) 27)).alloc (.cells zC 25)).heap[w.heap.size + 1 + 1]? = some (.cells zC 25 (0, 0)) := by
    have := heap_alloc_new ((w.alloc (.cells (cv c v) 25)).alloc (.cells (ec 4 i q 0) 27)) (.cells zC 25)
    simpa using this
  have hb : Below w.heap.size w (((w.alloc (.cells (cv c v) 25)).alloc (.cells (ec 4 i q 0) 27)).alloc (.cells zC 25)) := (((Below.refl _ w).alloc (Nat.le_refl _) _).alloc (by simp) _).alloc (by simp; omega) _
  have A1 := Lib.hid a1
  have A2 := Lib.hid a2
  have A3 := Lib.hid a3
  have HB := Lib.hid hb
  clear h hok a1 a2 a3 hb
  obtain ⟨z, hz⟩ : ∃ z, c.p.getD q 0 = z := ⟨_, rfl⟩
  rw [hz]
  have HZV := Lib.hid hz
  clear hz
  go_enter Try.func24, Try.ntmps24
  unfold zC at A1 A2 A3 HB
  obtain ⟨c0, c1, c2, c3⟩ := cvCells _ _ _ _ _ _ A1.out
  obtain ⟨x0, x1, x2, x3⟩ := ecCells A2.out
  have hch : ∀ w', CL w' B c v → Calls Try.prog 21 #[.agg #[.bool c.f, .slice v.A1 c.s.length v.c1, .slice v.A2 c.r.length v.c2, .slice v.A3 c.p.length v.c3]] w' fun e w'' => e = .returned (.int .i64 0) ∧ Below w'.heap.size w' w'' := fun w' hc => check_any m B c v w' hc HOK.out (by omega)
  have hfi : ∀ w', Calls Try.prog 64 #[.agg #[.bool c.f, .slice v.A1 c.s.length v.c1, .slice v.A2 c.r.length v.c2, .slice v.A3 c.p.length v.c3], .agg #[.int .i64 4, .int .i64 (i : Int), .int .i64 (q : Int), .int .i64 0]] w' fun e w'' => e = .returned (.bool true) ∧ Below w'.heap.size w' w'' := fun w' => by
    have := fits_any c v ⟨4, i, q, 0⟩ w' r1 HGOOD.out
    rw [show fitB c ⟨4, i, q, 0⟩ = true by simp [fitB]; omega] at this
    exact this
  have hco : ∀ w', CL w' B c v → Calls Try.prog 65 #[.agg #[.bool c.f, .slice v.A1 c.s.length v.c1, .slice v.A2 c.r.length v.c2, .slice v.A3 c.p.length v.c3]] w' fun e w'' => ∃ v', e = .returned (.agg (cv c v')) ∧ Own w'' w'.heap.size c v' ∧ Below w'.heap.size w' w'' := fun w' hc => copyOf_any m B c v w' hc HOK.out (by omega)
  have HCH := Lib.hid hch
  have HFI := Lib.hid hfi
  have HCO := Lib.hid hco
  clear hch hfi hco
  go_wp2_with fail
  refine (HCH.out _ (HC.out.below HB.out)).mono ?_
  rintro e w1 ⟨rfl, hb1⟩
  have B1 := Lib.hid ((hb1.block _ (row_lt A1.out)).trans A1.out)
  have B2 := Lib.hid ((hb1.block _ (row_lt A2.out)).trans A2.out)
  have B3 := Lib.hid ((hb1.block _ (row_lt A3.out)).trans A3.out)
  have HB1 := Lib.hid (HB.out.trans (hb1.mono HB.out.size))
  clear hb1 c0 c1 c2 c3 x0 x1 x2 x3
  obtain ⟨c0, c1, c2, c3⟩ := cvCells _ _ _ _ _ _ B1.out
  obtain ⟨x0, x1, x2, x3⟩ := ecCells B2.out
  go_wp2_with fail
  refine (HFI.out _).mono ?_
  rintro e w2 ⟨rfl, hb2⟩
  have C1 := Lib.hid ((hb2.block _ (row_lt B1.out)).trans B1.out)
  have C2 := Lib.hid ((hb2.block _ (row_lt B2.out)).trans B2.out)
  have C3 := Lib.hid ((hb2.block _ (row_lt B3.out)).trans B3.out)
  have HB2 := Lib.hid (HB1.out.trans (hb2.mono HB1.out.size))
  clear hb2 c0 c1 c2 c3 x0 x1 x2 x3
  obtain ⟨c0, c1, c2, c3⟩ := cvCells _ _ _ _ _ _ C1.out
  obtain ⟨x0, x1, x2, x3⟩ := ecCells C2.out
  go_wp2_with fail
  refine (HCO.out _ (HC.out.below HB2.out)).mono ?_
  rintro e w3 ⟨u, rfl, hown, hb3⟩
  have D1 := Lib.hid ((hb3.block _ (row_lt C1.out)).trans C1.out)
  have D2 := Lib.hid ((hb3.block _ (row_lt C2.out)).trans C2.out)
  have D3 := Lib.hid ((hb3.block _ (row_lt C3.out)).trans C3.out)
  have HB3 := Lib.hid (HB2.out.trans (hb3.mono HB2.out.size))
  have HOWN := Lib.hid hown
  have HL3 := Lib.hid hb3.size
  clear hb3 hown c0 c1 c2 c3 x0 x1 x2 x3
  have l2 : w.heap.size + 1 + 1 < w2.heap.size := row_lt C3.out
  have l3 : w2.heap.size ≤ w3.heap.size := HL3.out
  have E1 := Lib.hid ((heap_alloc_old w3 (.cells (cv c u) 25) (row_lt D1.out)).trans D1.out)
  have E2 := Lib.hid ((heap_alloc_old w3 (.cells (cv c u) 25) (row_lt D2.out)).trans D2.out)
  have E3 := Lib.hid ((heap_alloc_old w3 (.cells (cv c u) 25) (row_lt D3.out)).trans D3.out)
  have EG := Lib.hid (heap_alloc_new w3 (.cells (cv c u) 25))
  have HB4 := Lib.hid (HB3.out.trans ((box_below w3 (.cells (cv c u) 25)).mono HB3.out.size))
  have HO4 := Lib.hid (HOWN.out.below (box_below w3 (.cells (cv c u) 25)))
  have lG := row_lt EG.out
  generalize hW4 : w3.alloc (.cells (cv c u) 25) = W4 at *
  have HW4 := Lib.hid hW4
  clear hW4
  obtain ⟨g, hA, hgB, -⟩ := own_head HOWN.out.o2 (by omega)
  have hgl : g < w3.heap.size := (HOWN.out.o2.lt g (by rw [hA]; rfl)).2
  obtain ⟨b, off, eA, -, -, t0, t1⟩ := HO4.out.cl.r2.rep hi
  rw [hA] at eA
  cases eA
  rw [Nat.zero_add] at t0 t1
  obtain ⟨b3, off3, hA3, -, -, t3⟩ := (HC.out.below HB4.out).r3.int hq
  rw [HZV.out] at t3
  obtain ⟨c0, c1, c2, c3⟩ := cvCells _ _ _ _ _ _ E1.out
  rw [hA3] at c3
  have r1' : (0 : Int) ≤ (q : Int) := Int.natCast_nonneg q
  have r3' : (q : Int) < (c.p.length : Int) := Int.ofNat_lt.2 hq
  obtain ⟨x0, x1, x2, x3⟩ := ecCells E2.out
  obtain ⟨d0, d1, d2, d3⟩ := cvCells _ _ _ _ _ _ EG.out
  rw [hA] at d2
  have u1 : (0 : Int) ≤ (i : Int) := Int.natCast_nonneg i
  have u3 : (i : Int) < (c.r.length : Int) := Int.ofNat_lt.2 hi
  have o2 := HO4.out.o2
  rw [hA] at o2
  have ft0 : W4.frozen? ⟨g, i * 2, none⟩ = false := o2.frozenAt _
  have ft1 : W4.frozen? ⟨g, i * 2 + 1, none⟩ = false := o2.frozenAt _
  clear o2
  obtain ⟨hcl, hgr⟩ := own_setr (x := (z, !c.f)) HO4.out hA hi
  obtain ⟨W6, hW6⟩ : ∃ W6, (W4.setCell ⟨g, i * 2, none⟩ (.int .i64 (z : Int))).setCell ⟨g, i * 2 + 1, none⟩ (.bool !c.f) = W6 := ⟨_, rfl⟩
  rw [hW6] at hcl hgr
  have KG := Lib.hid ((hgr.block w3.heap.size lG (by simp; omega)).trans EG.out)
  have K3 := Lib.hid ((hgr.block (w.heap.size + 1 + 1) (by omega) (by simp; omega)).trans E3.out)
  have HB6 := Lib.hid (gb_below HB4.out hgr (by omega))
  have HCL := Lib.hid hcl
  have hs1 : (W4.setCell ⟨g, i * 2, none⟩ (.int .i64 (z : Int))).cell? ⟨g, i * 2 + 1, none⟩ = some (.bool (rd c.r i).2) := (World.cell?_setCell_other _ _ _ _ (by simp)).trans t1
  have hs2 : (W4.setCell ⟨g, i * 2, none⟩ (.int .i64 (z : Int))).frozen? ⟨g, i * 2 + 1, none⟩ = false := (World.frozen?_setCell _ _ _ _).trans ft1
  clear hcl hgr
  obtain ⟨z0, z1, z2, z3⟩ := cvCells _ _ _ _ _ _ KG.out
  obtain ⟨j0, j1, j2, j3, j4, j5, j6, j7⟩ := zCells (g := w.heap.size + 1 + 1) K3.out
  go_wp2_with (with_reducible (show wpList _ _ _ (⟨none, .store 25 (.tmp 6) (.tmp 39), _, _, _, _⟩ :: _) _ _); refine wpList_store_row (o := ⟨none, .store 25 (.tmp 6) (.tmp 39), _, _, _, _⟩) rfl 25 (.tmp 6) (.tmp 39) rfl w3.heap.size (cv c u) rfl rfl 25 zC (heap_alloc_new _ _) (info25 _ _) rfl (cv_one _ _) ?_; rw [new_set, HW4.out])
  go_region
  go_wp2_with fail
  have hcv : (#[.bool c.f, .slice u.A1 c.s.length u.c1, .slice (some ⟨g, 0, none⟩) c.r.length u.c2, .slice u.A3 c.p.length u.c3] : Array Value) = cv c u := by rw [cv, hA]
  first
    | rw [set4row (g := w.heap.size + 1 + 1) K3.out rfl, hcv]
    | rw [set4row (g := w.heap.size + 1 + 1) K3.out rfl]
  refine bodyPost_ret (v := .tuple #[.agg (cv c u), .int .i64 0]) (results_cell_row2 (fn := Try.f24) (p := 4) (u := 5) rfl _ _ (w.heap.size + 1 + 1) 25 (cv c u) (0, 0) _ rfl (setRow_heap _ _ _ _ _ _ K3.out) Try.underlying25 rfl (info25 _ _)) rfl ⟨u, by rw [cv_setr c u i (z, !c.f)], ?_, ?_⟩
  · exact (HCL.out.drew.set (g := w.heap.size + 1 + 1) (by omega) _).base (by omega)
  · exact below_setRow (g := w.heap.size + 1 + 1) HB6.out.drew (by omega) _

end Go.Proofs.Ytamcjhibdcbdnaa.Cl
