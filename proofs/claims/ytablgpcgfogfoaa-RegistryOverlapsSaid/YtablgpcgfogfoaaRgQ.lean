import Derived.Test.YtablgpcgfogfoaaRgP
namespace Go.Proofs.Ytablgpcgfogfoaa.Rg
open Go.RowKit
open Go.Proofs.Ytablgpcgfogfoaa.Tp
set_option linter.unusedVariables false

theorem below_al {a w : World} (h : Below a.heap.size a w) (X : Obj) : Below a.heap.size a (w.alloc X) := h.trans ((box_below w X).mono h.size)
theorem below_st {g i : Nat} {a w : World} {v : Value} (h : Below a.heap.size a w) (hg : a.heap.size ≤ g) : Below a.heap.size a (w.setCell ⟨g, i, none⟩ v) := h.grown (gb_set w g i v) h.size (fun k e => by cases e; exact hg)
theorem below_rf (w : World) : Below w.heap.size w w := Below.refl _ _
macro "below_up" t:term : tactic => `(tactic| (repeat (first | (with_reducible exact below_rf _) | (with_reducible refine Below.drew ?_) | (with_reducible refine below_al ?_ _) | (with_reducible refine below_st ?_ (by simp <;> omega)))))

/-- What Overlap tells of two credentials. -/
def ovF (x y : Cr) : Nat := if max x.f y.f < min x.u y.u then max x.f y.f else 0
def ovU (x y : Cr) : Nat := if max x.f y.f < min x.u y.u then min x.u y.u else 0
def ovB (x y : Cr) : Bool := decide (max x.f y.f < min x.u y.u)

set_option maxRecDepth 100000 in
set_option maxHeartbeats 2000000 in
theorem overlap_any (B : Nat) (nm : ByteArray) (r : Rg) (v : Vr) (p q : Nat) (w : World) (hg : Gd w B nm r v) (hp : p < r.c.length) (hq : q < r.c.length) :
    Calls Try.prog 16 #[.agg (gv r v), .int .i64 (p : Int), .int .i64 (q : Int)] w fun e w' => e = .returned (.tuple #[.int .i64 ((ovF (cg r p) (cg r q) : Nat) : Int), .int .i64 ((ovU (cg r p) (cg r q) : Nat) : Int), .bool (ovB (cg r p) (cg r q))]) ∧ Below w.heap.size w w' := by
  have HB0 := Lib.hid (box_below w (.cells (gv r v) 26))
  have R0 := Lib.hid (heap_alloc_new w (.cells (gv r v) 26))
  have HCK := Lib.hid (fun w' (hw : Below w.heap.size w w') => check_ok (hg.below hw))
  have HRL := Lib.hid hg.l
  have n2 := hg.f.n2
  clear hg
  obtain ⟨g0, g1⟩ := gvCells R0.out
  go_enter Try.func16, Try.ntmps16
  go_wp2_with fail
  refine (HCK.out _ HB0.out).mono ?_
  rintro e w1 ⟨rfl, hb1⟩
  have R1 := Lib.hid ((hb1.block _ (row_lt R0.out)).trans R0.out)
  have HB1 := Lib.hid (HB0.out.trans (hb1.mono HB0.out.size))
  clear hb1 g0 g1
  obtain ⟨g0, g1⟩ := gvCells R1.out
  obtain ⟨b, off, hA, -, hbk, y0, y1, y2, y3, y4⟩ := (HRL.out.below HB1.out).r2.crd hp
  obtain ⟨b', off', hA', -, -, z0, z1, z2, z3, z4⟩ := (HRL.out.below HB1.out).r2.crd hq
  rw [hA] at hA'
  cases hA'
  have hK : r.c.getD p c0 = cg r p := rfl
  have hK' : r.c.getD q c0 = cg r q := rfl
  rw [hK] at y0 y1 y2 y3 y4
  rw [hK'] at z0 z1 z2 z3 z4
  clear hK hK'
  generalize hx : cg r p = x at *
  generalize hy : cg r q = y at *
  have HXX := Lib.hid hx
  have HYY := Lib.hid hy
  clear hx hy
  rw [hA] at g1
  have j0 : (0 : Int) ≤ (p : Int) := by omega
  have j1 : (p : Int) < (r.c.length : Int) := by omega
  have k0 : (0 : Int) ≤ (q : Int) := by omega
  have k1 : (q : Int) < (r.c.length : Int) := by omega
  have HAA := Lib.hid hA
  clear hA
  go_wp2_with (first
    | (go_at_call 43; (with_reducible refine (num_yes p r.c.length _ hp (by omega)).mono ?_); rintro e w2 ⟨rfl, rfl⟩)
    | (go_at_call 43; (with_reducible refine (num_yes q r.c.length _ hq (by omega)).mono ?_); rintro e w2 ⟨rfl, rfl⟩))
  have hk : ∀ w', Below w1.heap.size w1 w' → (w'.cell? ⟨w.heap.size, 1, none⟩ = some (.slice (some ⟨b, off, none⟩) r.c.length v.c2) ∧ w'.cell? ⟨b, off + p * 5, none⟩ = some (.int .i64 (x.i : Int)) ∧ w'.cell? ⟨b, off + p * 5 + 1, none⟩ = some (.int .u64 (x.p : Int)) ∧ w'.cell? ⟨b, off + p * 5 + 2, none⟩ = some (.int .i64 (x.h : Int)) ∧ w'.cell? ⟨b, off + p * 5 + 3, none⟩ = some (.int .i64 (x.f : Int)) ∧ w'.cell? ⟨b, off + p * 5 + 4, none⟩ = some (.int .i64 (x.u : Int)) ∧ w'.cell? ⟨b, off + q * 5, none⟩ = some (.int .i64 (y.i : Int)) ∧ w'.cell? ⟨b, off + q * 5 + 1, none⟩ = some (.int .u64 (y.p : Int)) ∧ w'.cell? ⟨b, off + q * 5 + 2, none⟩ = some (.int .i64 (y.h : Int)) ∧ w'.cell? ⟨b, off + q * 5 + 3, none⟩ = some (.int .i64 (y.f : Int)) ∧ w'.cell? ⟨b, off + q * 5 + 4, none⟩ = some (.int .i64 (y.u : Int)) ∧ Below w1.heap.size w1 w') := fun w' hw =>
    ⟨(hw.cell (p := ⟨w.heap.size, 1, none⟩) (row_lt R1.out)).trans g1, (hw.cell (p := ⟨b, _, none⟩) hbk).trans y0, (hw.cell (p := ⟨b, _, none⟩) hbk).trans y1, (hw.cell (p := ⟨b, _, none⟩) hbk).trans y2, (hw.cell (p := ⟨b, _, none⟩) hbk).trans y3, (hw.cell (p := ⟨b, _, none⟩) hbk).trans y4, (hw.cell (p := ⟨b, _, none⟩) hbk).trans z0, (hw.cell (p := ⟨b, _, none⟩) hbk).trans z1, (hw.cell (p := ⟨b, _, none⟩) hbk).trans z2, (hw.cell (p := ⟨b, _, none⟩) hbk).trans z3, (hw.cell (p := ⟨b, _, none⟩) hbk).trans z4, hw⟩
  have HK := Lib.hid hk
  have hbr : Below w1.heap.size w1 w1 := Below.refl _ _
  clear hk g0 g1 y0 y1 y2 y3 y4 z0 z1 z2 z3 z4
  go_region_held3 (fun w' => w'.cell? ⟨w.heap.size, 1, none⟩ = some (.slice (some ⟨b, off, none⟩) r.c.length v.c2) ∧ w'.cell? ⟨b, off + p * 5, none⟩ = some (.int .i64 (x.i : Int)) ∧ w'.cell? ⟨b, off + p * 5 + 1, none⟩ = some (.int .u64 (x.p : Int)) ∧ w'.cell? ⟨b, off + p * 5 + 2, none⟩ = some (.int .i64 (x.h : Int)) ∧ w'.cell? ⟨b, off + p * 5 + 3, none⟩ = some (.int .i64 (x.f : Int)) ∧ w'.cell? ⟨b, off + p * 5 + 4, none⟩ = some (.int .i64 (x.u : Int)) ∧ w'.cell? ⟨b, off + q * 5, none⟩ = some (.int .i64 (y.i : Int)) ∧ w'.cell? ⟨b, off + q * 5 + 1, none⟩ = some (.int .u64 (y.p : Int)) ∧ w'.cell? ⟨b, off + q * 5 + 2, none⟩ = some (.int .i64 (y.h : Int)) ∧ w'.cell? ⟨b, off + q * 5 + 3, none⟩ = some (.int .i64 (y.f : Int)) ∧ w'.cell? ⟨b, off + q * 5 + 4, none⟩ = some (.int .i64 (y.u : Int)) ∧ Below w1.heap.size w1 w')
    (first | (with_reducible assumption) | (exact HK.out _ (by below_up w1)))
    (fail)
  ·
    have c3 : (((w1.alloc (.cells #[.int .i64 (x.i : Int), .int .u64 (x.p : Int), .int .i64 (x.h : Int), .int .i64 (x.f : Int), .int .i64 (x.u : Int)] 29)).alloc (.cells #[.int .i64 (y.i : Int), .int .u64 (y.p : Int), .int .i64 (y.h : Int), .int .i64 (y.f : Int), .int .i64 (y.u : Int)] 29)).drew).cell? ⟨w1.heap.size, 3, none⟩ = some (.int .i64 (x.f : Int)) := (kcCells (x := x) (t := 29) (heap_alloc2_old w1 (.cells (kc x) 29) (.cells (kc y) 29))).2.2.2.1
    have c4 : (((w1.alloc (.cells #[.int .i64 (x.i : Int), .int .u64 (x.p : Int), .int .i64 (x.h : Int), .int .i64 (x.f : Int), .int .i64 (x.u : Int)] 29)).alloc (.cells #[.int .i64 (y.i : Int), .int .u64 (y.p : Int), .int .i64 (y.h : Int), .int .i64 (y.f : Int), .int .i64 (y.u : Int)] 29)).drew).cell? ⟨w1.heap.size, 4, none⟩ = some (.int .i64 (x.u : Int)) := (kcCells (x := x) (t := 29) (heap_alloc2_old w1 (.cells (kc x) 29) (.cells (kc y) 29))).2.2.2.2
    have d3 : (((w1.alloc (.cells #[.int .i64 (x.i : Int), .int .u64 (x.p : Int), .int .i64 (x.h : Int), .int .i64 (x.f : Int), .int .i64 (x.u : Int)] 29)).alloc (.cells #[.int .i64 (y.i : Int), .int .u64 (y.p : Int), .int .i64 (y.h : Int), .int .i64 (y.f : Int), .int .i64 (y.u : Int)] 29)).drew).cell? ⟨w1.heap.size + 1, 3, none⟩ = some (.int .i64 (y.f : Int)) := (kcCells (x := y) (t := 29) (heap_alloc2_new w1 (.cells (kc x) 29) (.cells (kc y) 29))).2.2.2.1
    have d4 : (((w1.alloc (.cells #[.int .i64 (x.i : Int), .int .u64 (x.p : Int), .int .i64 (x.h : Int), .int .i64 (x.f : Int), .int .i64 (x.u : Int)] 29)).alloc (.cells #[.int .i64 (y.i : Int), .int .u64 (y.p : Int), .int .i64 (y.h : Int), .int .i64 (y.f : Int), .int .i64 (y.u : Int)] 29)).drew).cell? ⟨w1.heap.size + 1, 4, none⟩ = some (.int .i64 (y.u : Int)) := (kcCells (x := y) (t := 29) (heap_alloc2_new w1 (.cells (kc x) 29) (.cells (kc y) 29))).2.2.2.2
    have HB2 := Lib.hid (HB1.out.trans ((show Below w1.heap.size w1 (((w1.alloc (.cells #[.int .i64 (x.i : Int), .int .u64 (x.p : Int), .int .i64 (x.h : Int), .int .i64 (x.f : Int), .int .i64 (x.u : Int)] 29)).alloc (.cells #[.int .i64 (y.i : Int), .int .u64 (y.p : Int), .int .i64 (y.h : Int), .int .i64 (y.f : Int), .int .i64 (y.u : Int)] 29)).drew) from by below_up w1).mono HB1.out.size))
    go_split_ands
    generalize ((w1.alloc (.cells #[.int .i64 (x.i : Int), .int .u64 (x.p : Int), .int .i64 (x.h : Int), .int .i64 (x.f : Int), .int .i64 (x.u : Int)] 29)).alloc (.cells #[.int .i64 (y.i : Int), .int .u64 (y.p : Int), .int .i64 (y.h : Int), .int .i64 (y.f : Int), .int .i64 (y.u : Int)] 29)).drew = W2 at *
    have HF := Lib.hid (show (if x.f < y.f then (y.f : Int) else (x.f : Int)) = ((max x.f y.f : Nat) : Int) by split <;> omega)
    have HU := Lib.hid (show (if y.u < x.u then (y.u : Int) else (x.u : Int)) = ((min x.u y.u : Nat) : Int) by split <;> omega)
    have o1 : ovF x y = if max x.f y.f < min x.u y.u then max x.f y.f else 0 := rfl
    have o2 : ovU x y = if max x.f y.f < min x.u y.u then min x.u y.u else 0 := rfl
    have o3 : ovB x y = decide (max x.f y.f < min x.u y.u) := rfl
    have O1 := Lib.hid o1
    have O2 := Lib.hid o2
    have O3 := Lib.hid o3
    clear o1 o2 o3
    go_wp2_with fail
    go_region
    all_goals
      rw [HF.out, HU.out]
      clear c3 c4 d3 d4
      generalize max x.f y.f = F at *
      generalize min x.u y.u = U at *
      by_cases hlt : F < U
      · have l1 : decide ((U : Int) ≤ (F : Int)) = false := decide_eq_false (by omega)
        have l2 : ¬ U ≤ F := by omega
        go_wp2_with fail
        go_ret3
        exact ⟨by rw [HXX.out, HYY.out, O1.out, O2.out, O3.out, if_pos hlt, if_pos hlt, decide_eq_true hlt]; rfl, HB2.out.drew⟩
      · have l2 : U ≤ F := by omega
        go_wp2_with fail
        go_ret3
        exact ⟨by rw [HXX.out, HYY.out, O1.out, O2.out, O3.out, if_neg hlt, if_neg hlt, decide_eq_false hlt]; rfl, HB2.out.drew⟩
  ·
    have c3 : (((w1.alloc (.cells #[.int .i64 (y.i : Int), .int .u64 (y.p : Int), .int .i64 (y.h : Int), .int .i64 (y.f : Int), .int .i64 (y.u : Int)] 29)).alloc (.cells #[.int .i64 (x.i : Int), .int .u64 (x.p : Int), .int .i64 (x.h : Int), .int .i64 (x.f : Int), .int .i64 (x.u : Int)] 29)).drew).cell? ⟨w1.heap.size + 1, 3, none⟩ = some (.int .i64 (x.f : Int)) := (kcCells (x := x) (t := 29) (heap_alloc2_new w1 (.cells (kc y) 29) (.cells (kc x) 29))).2.2.2.1
    have c4 : (((w1.alloc (.cells #[.int .i64 (y.i : Int), .int .u64 (y.p : Int), .int .i64 (y.h : Int), .int .i64 (y.f : Int), .int .i64 (y.u : Int)] 29)).alloc (.cells #[.int .i64 (x.i : Int), .int .u64 (x.p : Int), .int .i64 (x.h : Int), .int .i64 (x.f : Int), .int .i64 (x.u : Int)] 29)).drew).cell? ⟨w1.heap.size + 1, 4, none⟩ = some (.int .i64 (x.u : Int)) := (kcCells (x := x) (t := 29) (heap_alloc2_new w1 (.cells (kc y) 29) (.cells (kc x) 29))).2.2.2.2
    have d3 : (((w1.alloc (.cells #[.int .i64 (y.i : Int), .int .u64 (y.p : Int), .int .i64 (y.h : Int), .int .i64 (y.f : Int), .int .i64 (y.u : Int)] 29)).alloc (.cells #[.int .i64 (x.i : Int), .int .u64 (x.p : Int), .int .i64 (x.h : Int), .int .i64 (x.f : Int), .int .i64 (x.u : Int)] 29)).drew).cell? ⟨w1.heap.size, 3, none⟩ = some (.int .i64 (y.f : Int)) := (kcCells (x := y) (t := 29) (heap_alloc2_old w1 (.cells (kc y) 29) (.cells (kc x) 29))).2.2.2.1
    have d4 : (((w1.alloc (.cells #[.int .i64 (y.i : Int), .int .u64 (y.p : Int), .int .i64 (y.h : Int), .int .i64 (y.f : Int), .int .i64 (y.u : Int)] 29)).alloc (.cells #[.int .i64 (x.i : Int), .int .u64 (x.p : Int), .int .i64 (x.h : Int), .int .i64 (x.f : Int), .int .i64 (x.u : Int)] 29)).drew).cell? ⟨w1.heap.size, 4, none⟩ = some (.int .i64 (y.u : Int)) := (kcCells (x := y) (t := 29) (heap_alloc2_old w1 (.cells (kc y) 29) (.cells (kc x) 29))).2.2.2.2
    have HB2 := Lib.hid (HB1.out.trans ((show Below w1.heap.size w1 (((w1.alloc (.cells #[.int .i64 (y.i : Int), .int .u64 (y.p : Int), .int .i64 (y.h : Int), .int .i64 (y.f : Int), .int .i64 (y.u : Int)] 29)).alloc (.cells #[.int .i64 (x.i : Int), .int .u64 (x.p : Int), .int .i64 (x.h : Int), .int .i64 (x.f : Int), .int .i64 (x.u : Int)] 29)).drew) from by below_up w1).mono HB1.out.size))
    go_split_ands
    generalize ((w1.alloc (.cells #[.int .i64 (y.i : Int), .int .u64 (y.p : Int), .int .i64 (y.h : Int), .int .i64 (y.f : Int), .int .i64 (y.u : Int)] 29)).alloc (.cells #[.int .i64 (x.i : Int), .int .u64 (x.p : Int), .int .i64 (x.h : Int), .int .i64 (x.f : Int), .int .i64 (x.u : Int)] 29)).drew = W2 at *
    have HF := Lib.hid (show (if x.f < y.f then (y.f : Int) else (x.f : Int)) = ((max x.f y.f : Nat) : Int) by split <;> omega)
    have HU := Lib.hid (show (if y.u < x.u then (y.u : Int) else (x.u : Int)) = ((min x.u y.u : Nat) : Int) by split <;> omega)
    have o1 : ovF x y = if max x.f y.f < min x.u y.u then max x.f y.f else 0 := rfl
    have o2 : ovU x y = if max x.f y.f < min x.u y.u then min x.u y.u else 0 := rfl
    have o3 : ovB x y = decide (max x.f y.f < min x.u y.u) := rfl
    have O1 := Lib.hid o1
    have O2 := Lib.hid o2
    have O3 := Lib.hid o3
    clear o1 o2 o3
    go_wp2_with fail
    go_region
    all_goals
      rw [HF.out, HU.out]
      clear c3 c4 d3 d4
      generalize max x.f y.f = F at *
      generalize min x.u y.u = U at *
      by_cases hlt : F < U
      · have l1 : decide ((U : Int) ≤ (F : Int)) = false := decide_eq_false (by omega)
        have l2 : ¬ U ≤ F := by omega
        go_wp2_with fail
        go_ret3
        exact ⟨by rw [HXX.out, HYY.out, O1.out, O2.out, O3.out, if_pos hlt, if_pos hlt, decide_eq_true hlt]; rfl, HB2.out.drew⟩
      · have l2 : U ≤ F := by omega
        go_wp2_with fail
        go_ret3
        exact ⟨by rw [HXX.out, HYY.out, O1.out, O2.out, O3.out, if_neg hlt, if_neg hlt, decide_eq_false hlt]; rfl, HB2.out.drew⟩

end Go.Proofs.Ytablgpcgfogfoaa.Rg
