import Derived.Test.YtamcjhibdcbdnaaCEx
import Derived.Deep.RegionHeld3
namespace Go.Proofs.Ytamcjhibdcbdnaa.Cl
open Go.RowKit
open Go.Proofs.Ytamcjhibdcbdnaa.Tp
set_option linter.unusedVariables false

theorem isnum_yes (x n : Nat) (w : World) (h : x < n) : Calls Try.prog 52 #[.int .i64 (x : Int), .int .i64 (n : Int)] w fun e w' => e = .returned (.bool true) ∧ w = w' := by
  have d0 : decide ((0 : Int) ≤ (x : Int)) = true := decide_eq_true (by omega)
  have d1 : decide ((x : Int) < (n : Int)) = true := decide_eq_true (by omega)
  go_enter Try.func52, Try.ntmps52
  go_wp2
  go_ret
  simp
theorem isnum_no (x n : Nat) (w : World) (h : n ≤ x) : Calls Try.prog 52 #[.int .i64 (x : Int), .int .i64 (n : Int)] w fun e w' => e = .returned (.bool false) ∧ w = w' := by
  have d0 : decide ((0 : Int) ≤ (x : Int)) = true := decide_eq_true (by omega)
  have d1 : decide ((x : Int) < (n : Int)) = false := decide_eq_false (by omega)
  go_enter Try.func52, Try.ntmps52
  go_wp2
  go_ret
  exact ⟨by first | rfl | (simp; omega), rfl⟩
theorem isbits_yes (b : Nat) (w : World) (h : b ≤ 3) : Calls Try.prog 53 #[.int .i64 (b : Int)] w fun e w' => e = .returned (.bool true) ∧ w = w' := by
  have d0 : decide ((0 : Int) ≤ (b : Int)) = true := decide_eq_true (by omega)
  have d1 : decide ((b : Int) ≤ 3) = true := decide_eq_true (by omega)
  go_enter Try.func53, Try.ntmps53
  go_wp2
  go_ret
  simp

set_option maxRecDepth 100000 in
set_option maxHeartbeats 1000000 in
theorem fits1 (c : Cl) (v : Vl) (b : Nat) (w : World) (hb : b ≤ 3) (hr : 1 ≤ c.r.length) :
    Calls Try.prog 64 #[.agg (cv c v), .agg (ec 1 0 0 b)] w fun e w' => e = .returned (.bool true) ∧ Below w.heap.size w w' := by
  have HB := Lib.hid hb
  have HR := Lib.hid hr
  have hb1 := (box_below w (.cells (cv c v) 25)).trans ((box_below (w.alloc (.cells (cv c v) 25)) (.cells (ec 1 0 0 b) 27)).mono (by simp))
  have a1 := (heap_alloc_old (w.alloc (.cells (cv c v) 25)) (.cells (ec 1 0 0 b) 27) (by simp)).trans (heap_alloc_new w (.cells (cv c v) 25))
  have a2 := heap_alloc_new (w.alloc (.cells (cv c v) 25)) (.cells (ec 1 0 0 b) 27)
  rw [show (w.alloc (.cells (cv c v) 25)).heap.size = w.heap.size + 1 by simp] at a2
  have hl : ((w.alloc (.cells (cv c v) 25)).alloc (.cells (ec 1 0 0 b) 27)).heap.size = w.heap.size + 2 := by simp
  have n1 : ∀ o, (((w.alloc (.cells (cv c v) 25)).alloc (.cells (ec 1 0 0 b) 27)).alloc o).heap[w.heap.size]? = some (.cells (cv c v) 25 (0, 0)) := fun o => (heap_alloc_old _ _ (row_lt a1)).trans a1
  have n2 : ∀ o, (((w.alloc (.cells (cv c v) 25)).alloc (.cells (ec 1 0 0 b) 27)).alloc o).heap[w.heap.size + 1]? = some (.cells (ec 1 0 0 b) 27 (0, 0)) := fun o => (heap_alloc_old _ _ (row_lt a2)).trans a2
  have c2 : ∀ o, (((w.alloc (.cells (cv c v) 25)).alloc (.cells (ec 1 0 0 b) 27)).alloc o).cell? ⟨w.heap.size, 2, none⟩ = some (.slice v.A2 c.r.length v.c2) := fun o => (cvCells _ _ _ _ _ _ (n1 o)).2.2.1
  have x0 : ∀ o, (((w.alloc (.cells (cv c v) 25)).alloc (.cells (ec 1 0 0 b) 27)).alloc o).cell? ⟨w.heap.size + 1, 0, none⟩ = some (.int .i64 1) := fun o => (ecCells (n2 o)).1
  have x1 : ∀ o, (((w.alloc (.cells (cv c v) 25)).alloc (.cells (ec 1 0 0 b) 27)).alloc o).cell? ⟨w.heap.size + 1, 1, none⟩ = some (.int .i64 0) := fun o => (ecCells (n2 o)).2.1
  have x2 : ∀ o, (((w.alloc (.cells (cv c v) 25)).alloc (.cells (ec 1 0 0 b) 27)).alloc o).cell? ⟨w.heap.size + 1, 2, none⟩ = some (.int .i64 0) := fun o => (ecCells (n2 o)).2.2.1
  have x3 : ∀ o, (((w.alloc (.cells (cv c v) 25)).alloc (.cells (ec 1 0 0 b) 27)).alloc o).cell? ⟨w.heap.size + 1, 3, none⟩ = some (.int .i64 (b : Int)) := fun o => (ecCells (n2 o)).2.2.2
  obtain ⟨y0, y1, y2, y3⟩ := ecCells a2
  have HB1 := Lib.hid hb1
  clear hb1 a1 a2 n1 n2 hb hr
  go_enter Try.func64, Try.ntmps64
  go_wp2_with (first
    | (go_at_call 52; refine (isnum_yes 0 c.r.length _ HR.out).mono ?_; rintro e w2 ⟨rfl, rfl⟩)
    | (go_at_call 53; refine (isbits_yes b _ HB.out).mono ?_; rintro e w3 ⟨rfl, rfl⟩))
  go_ret
  exact ⟨by first | rfl | simp, HB1.out.trans ((box_below _ _).mono HB1.out.size)⟩

set_option maxRecDepth 100000 in
set_option maxHeartbeats 1000000 in
theorem fits2 (c : Cl) (v : Vl) (i : Nat) (w : World) (hr : i < c.r.length) :
    Calls Try.prog 64 #[.agg (cv c v), .agg (ec 2 i 0 0)] w fun e w' => e = .returned (.bool true) ∧ Below w.heap.size w w' := by
  have HR := Lib.hid hr
  have hb1 := (box_below w (.cells (cv c v) 25)).trans ((box_below (w.alloc (.cells (cv c v) 25)) (.cells (ec 2 i 0 0) 27)).mono (by simp))
  have a1 := (heap_alloc_old (w.alloc (.cells (cv c v) 25)) (.cells (ec 2 i 0 0) 27) (by simp)).trans (heap_alloc_new w (.cells (cv c v) 25))
  have a2 := heap_alloc_new (w.alloc (.cells (cv c v) 25)) (.cells (ec 2 i 0 0) 27)
  rw [show (w.alloc (.cells (cv c v) 25)).heap.size = w.heap.size + 1 by simp] at a2
  have hl : ((w.alloc (.cells (cv c v) 25)).alloc (.cells (ec 2 i 0 0) 27)).heap.size = w.heap.size + 2 := by simp
  have n1 : ∀ o, (((w.alloc (.cells (cv c v) 25)).alloc (.cells (ec 2 i 0 0) 27)).alloc o).heap[w.heap.size]? = some (.cells (cv c v) 25 (0, 0)) := fun o => (heap_alloc_old _ _ (row_lt a1)).trans a1
  have n2 : ∀ o, (((w.alloc (.cells (cv c v) 25)).alloc (.cells (ec 2 i 0 0) 27)).alloc o).heap[w.heap.size + 1]? = some (.cells (ec 2 i 0 0) 27 (0, 0)) := fun o => (heap_alloc_old _ _ (row_lt a2)).trans a2
  have c2 : ∀ o, (((w.alloc (.cells (cv c v) 25)).alloc (.cells (ec 2 i 0 0) 27)).alloc o).cell? ⟨w.heap.size, 2, none⟩ = some (.slice v.A2 c.r.length v.c2) := fun o => (cvCells _ _ _ _ _ _ (n1 o)).2.2.1
  have x0 : ∀ o, (((w.alloc (.cells (cv c v) 25)).alloc (.cells (ec 2 i 0 0) 27)).alloc o).cell? ⟨w.heap.size + 1, 0, none⟩ = some (.int .i64 2) := fun o => (ecCells (n2 o)).1
  have x1 : ∀ o, (((w.alloc (.cells (cv c v) 25)).alloc (.cells (ec 2 i 0 0) 27)).alloc o).cell? ⟨w.heap.size + 1, 1, none⟩ = some (.int .i64 (i : Int)) := fun o => (ecCells (n2 o)).2.1
  have x2 : ∀ o, (((w.alloc (.cells (cv c v) 25)).alloc (.cells (ec 2 i 0 0) 27)).alloc o).cell? ⟨w.heap.size + 1, 2, none⟩ = some (.int .i64 0) := fun o => (ecCells (n2 o)).2.2.1
  have x3 : ∀ o, (((w.alloc (.cells (cv c v) 25)).alloc (.cells (ec 2 i 0 0) 27)).alloc o).cell? ⟨w.heap.size + 1, 3, none⟩ = some (.int .i64 0) := fun o => (ecCells (n2 o)).2.2.2
  obtain ⟨y0, y1, y2, y3⟩ := ecCells a2
  have HB1 := Lib.hid hb1
  clear hb1 a1 a2 n1 n2 hr
  go_enter Try.func64, Try.ntmps64
  go_wp2_with (go_at_call 52; refine (isnum_yes i c.r.length _ HR.out).mono ?_; rintro e w2 ⟨rfl, rfl⟩)
  go_ret
  exact ⟨by first | rfl | simp, HB1.out.trans ((box_below _ _).mono HB1.out.size)⟩

set_option maxRecDepth 100000 in
set_option maxHeartbeats 1000000 in
theorem fits3 (c : Cl) (v : Vl) (i : Nat) (w : World) (hr : i < c.r.length) :
    Calls Try.prog 64 #[.agg (cv c v), .agg (ec 3 i 0 0)] w fun e w' => e = .returned (.bool true) ∧ Below w.heap.size w w' := by
  have HR := Lib.hid hr
  have hb1 := (box_below w (.cells (cv c v) 25)).trans ((box_below (w.alloc (.cells (cv c v) 25)) (.cells (ec 3 i 0 0) 27)).mono (by simp))
  have a1 := (heap_alloc_old (w.alloc (.cells (cv c v) 25)) (.cells (ec 3 i 0 0) 27) (by simp)).trans (heap_alloc_new w (.cells (cv c v) 25))
  have a2 := heap_alloc_new (w.alloc (.cells (cv c v) 25)) (.cells (ec 3 i 0 0) 27)
  rw [show (w.alloc (.cells (cv c v) 25)).heap.size = w.heap.size + 1 by simp] at a2
  have hl : ((w.alloc (.cells (cv c v) 25)).alloc (.cells (ec 3 i 0 0) 27)).heap.size = w.heap.size + 2 := by simp
  have n1 : ∀ o, (((w.alloc (.cells (cv c v) 25)).alloc (.cells (ec 3 i 0 0) 27)).alloc o).heap[w.heap.size]? = some (.cells (cv c v) 25 (0, 0)) := fun o => (heap_alloc_old _ _ (row_lt a1)).trans a1
  have n2 : ∀ o, (((w.alloc (.cells (cv c v) 25)).alloc (.cells (ec 3 i 0 0) 27)).alloc o).heap[w.heap.size + 1]? = some (.cells (ec 3 i 0 0) 27 (0, 0)) := fun o => (heap_alloc_old _ _ (row_lt a2)).trans a2
  have c2 : ∀ o, (((w.alloc (.cells (cv c v) 25)).alloc (.cells (ec 3 i 0 0) 27)).alloc o).cell? ⟨w.heap.size, 2, none⟩ = some (.slice v.A2 c.r.length v.c2) := fun o => (cvCells _ _ _ _ _ _ (n1 o)).2.2.1
  have x0 : ∀ o, (((w.alloc (.cells (cv c v) 25)).alloc (.cells (ec 3 i 0 0) 27)).alloc o).cell? ⟨w.heap.size + 1, 0, none⟩ = some (.int .i64 3) := fun o => (ecCells (n2 o)).1
  have x1 : ∀ o, (((w.alloc (.cells (cv c v) 25)).alloc (.cells (ec 3 i 0 0) 27)).alloc o).cell? ⟨w.heap.size + 1, 1, none⟩ = some (.int .i64 (i : Int)) := fun o => (ecCells (n2 o)).2.1
  have x2 : ∀ o, (((w.alloc (.cells (cv c v) 25)).alloc (.cells (ec 3 i 0 0) 27)).alloc o).cell? ⟨w.heap.size + 1, 2, none⟩ = some (.int .i64 0) := fun o => (ecCells (n2 o)).2.2.1
  have x3 : ∀ o, (((w.alloc (.cells (cv c v) 25)).alloc (.cells (ec 3 i 0 0) 27)).alloc o).cell? ⟨w.heap.size + 1, 3, none⟩ = some (.int .i64 0) := fun o => (ecCells (n2 o)).2.2.2
  obtain ⟨y0, y1, y2, y3⟩ := ecCells a2
  have HB1 := Lib.hid hb1
  clear hb1 a1 a2 n1 n2 hr
  go_enter Try.func64, Try.ntmps64
  go_wp2_with (go_at_call 52; refine (isnum_yes i c.r.length _ HR.out).mono ?_; rintro e w2 ⟨rfl, rfl⟩)
  go_ret
  exact ⟨by first | rfl | simp, HB1.out.trans ((box_below _ _).mono HB1.out.size)⟩

set_option maxRecDepth 100000 in
set_option maxHeartbeats 1000000 in
theorem fits4 (c : Cl) (v : Vl) (i q : Nat) (w : World) (hr : i < c.r.length) (hq : q < c.p.length) :
    Calls Try.prog 64 #[.agg (cv c v), .agg (ec 4 i q 0)] w fun e w' => e = .returned (.bool true) ∧ Below w.heap.size w w' := by
  have HR := Lib.hid hr
  have HQ := Lib.hid hq
  have hb1 := (box_below w (.cells (cv c v) 25)).trans ((box_below (w.alloc (.cells (cv c v) 25)) (.cells (ec 4 i q 0) 27)).mono (by simp))
  have a1 := (heap_alloc_old (w.alloc (.cells (cv c v) 25)) (.cells (ec 4 i q 0) 27) (by simp)).trans (heap_alloc_new w (.cells (cv c v) 25))
  have a2 := heap_alloc_new (w.alloc (.cells (cv c v) 25)) (.cells (ec 4 i q 0) 27)
  rw [show (w.alloc (.cells (cv c v) 25)).heap.size = w.heap.size + 1 by simp] at a2
  have hl : ((w.alloc (.cells (cv c v) 25)).alloc (.cells (ec 4 i q 0) 27)).heap.size = w.heap.size + 2 := by simp
  have n1 : ∀ o, (((w.alloc (.cells (cv c v) 25)).alloc (.cells (ec 4 i q 0) 27)).alloc o).heap[w.heap.size]? = some (.cells (cv c v) 25 (0, 0)) := fun o => (heap_alloc_old _ _ (row_lt a1)).trans a1
  have n2 : ∀ o, (((w.alloc (.cells (cv c v) 25)).alloc (.cells (ec 4 i q 0) 27)).alloc o).heap[w.heap.size + 1]? = some (.cells (ec 4 i q 0) 27 (0, 0)) := fun o => (heap_alloc_old _ _ (row_lt a2)).trans a2
  have c2 : ∀ o, (((w.alloc (.cells (cv c v) 25)).alloc (.cells (ec 4 i q 0) 27)).alloc o).cell? ⟨w.heap.size, 2, none⟩ = some (.slice v.A2 c.r.length v.c2) := fun o => (cvCells _ _ _ _ _ _ (n1 o)).2.2.1
  have c3 : ∀ o, (((w.alloc (.cells (cv c v) 25)).alloc (.cells (ec 4 i q 0) 27)).alloc o).cell? ⟨w.heap.size, 3, none⟩ = some (.slice v.A3 c.p.length v.c3) := fun o => (cvCells _ _ _ _ _ _ (n1 o)).2.2.2
  have x0 : ∀ o, (((w.alloc (.cells (cv c v) 25)).alloc (.cells (ec 4 i q 0) 27)).alloc o).cell? ⟨w.heap.size + 1, 0, none⟩ = some (.int .i64 4) := fun o => (ecCells (n2 o)).1
  have x1 : ∀ o, (((w.alloc (.cells (cv c v) 25)).alloc (.cells (ec 4 i q 0) 27)).alloc o).cell? ⟨w.heap.size + 1, 1, none⟩ = some (.int .i64 (i : Int)) := fun o => (ecCells (n2 o)).2.1
  have x2 : ∀ o, (((w.alloc (.cells (cv c v) 25)).alloc (.cells (ec 4 i q 0) 27)).alloc o).cell? ⟨w.heap.size + 1, 2, none⟩ = some (.int .i64 (q : Int)) := fun o => (ecCells (n2 o)).2.2.1
  have x3 : ∀ o, (((w.alloc (.cells (cv c v) 25)).alloc (.cells (ec 4 i q 0) 27)).alloc o).cell? ⟨w.heap.size + 1, 3, none⟩ = some (.int .i64 0) := fun o => (ecCells (n2 o)).2.2.2
  obtain ⟨y0, y1, y2, y3⟩ := ecCells a2
  have HB1 := Lib.hid hb1
  clear hb1 a1 a2 n1 n2 hr hq
  go_enter Try.func64, Try.ntmps64
  go_wp2_with (go_at_call 52; refine (isnum_yes i c.r.length _ HR.out).mono ?_; rintro e w2 ⟨rfl, rfl⟩)
  go_region
  all_goals (go_wp2_with (go_at_call 52; refine (isnum_yes q c.p.length _ HQ.out).mono ?_; rintro e w3 ⟨rfl, rfl⟩))
  all_goals go_ret
  all_goals exact ⟨by first | rfl | simp, by first | exact (HB1.out.trans ((box_below _ _).mono HB1.out.size)) | exact (HB1.out.trans ((box_below _ _).mono HB1.out.size)).drew⟩

set_option maxRecDepth 100000 in
set_option maxHeartbeats 1000000 in
theorem fits4n (c : Cl) (v : Vl) (i q : Nat) (w : World) (hr : i < c.r.length) (hq : c.p.length ≤ q) :
    Calls Try.prog 64 #[.agg (cv c v), .agg (ec 4 i q 0)] w fun e w' => e = .returned (.bool false) ∧ Below w.heap.size w w' := by
  have HR := Lib.hid hr
  have HQ := Lib.hid hq
  have hb1 := (box_below w (.cells (cv c v) 25)).trans ((box_below (w.alloc (.cells (cv c v) 25)) (.cells (ec 4 i q 0) 27)).mono (by simp))
  have a1 := (heap_alloc_old (w.alloc (.cells (cv c v) 25)) (.cells (ec 4 i q 0) 27) (by simp)).trans (heap_alloc_new w (.cells (cv c v) 25))
  have a2 := heap_alloc_new (w.alloc (.cells (cv c v) 25)) (.cells (ec 4 i q 0) 27)
  rw [show (w.alloc (.cells (cv c v) 25)).heap.size = w.heap.size + 1 by simp] at a2
  have hl : ((w.alloc (.cells (cv c v) 25)).alloc (.cells (ec 4 i q 0) 27)).heap.size = w.heap.size + 2 := by simp
  have n1 : ∀ o, (((w.alloc (.cells (cv c v) 25)).alloc (.cells (ec 4 i q 0) 27)).alloc o).heap[w.heap.size]? = some (.cells (cv c v) 25 (0, 0)) := fun o => (heap_alloc_old _ _ (row_lt a1)).trans a1
  have n2 : ∀ o, (((w.alloc (.cells (cv c v) 25)).alloc (.cells (ec 4 i q 0) 27)).alloc o).heap[w.heap.size + 1]? = some (.cells (ec 4 i q 0) 27 (0, 0)) := fun o => (heap_alloc_old _ _ (row_lt a2)).trans a2
  have c2 : ∀ o, (((w.alloc (.cells (cv c v) 25)).alloc (.cells (ec 4 i q 0) 27)).alloc o).cell? ⟨w.heap.size, 2, none⟩ = some (.slice v.A2 c.r.length v.c2) := fun o => (cvCells _ _ _ _ _ _ (n1 o)).2.2.1
  have c3 : ∀ o, (((w.alloc (.cells (cv c v) 25)).alloc (.cells (ec 4 i q 0) 27)).alloc o).cell? ⟨w.heap.size, 3, none⟩ = some (.slice v.A3 c.p.length v.c3) := fun o => (cvCells _ _ _ _ _ _ (n1 o)).2.2.2
  have x0 : ∀ o, (((w.alloc (.cells (cv c v) 25)).alloc (.cells (ec 4 i q 0) 27)).alloc o).cell? ⟨w.heap.size + 1, 0, none⟩ = some (.int .i64 4) := fun o => (ecCells (n2 o)).1
  have x1 : ∀ o, (((w.alloc (.cells (cv c v) 25)).alloc (.cells (ec 4 i q 0) 27)).alloc o).cell? ⟨w.heap.size + 1, 1, none⟩ = some (.int .i64 (i : Int)) := fun o => (ecCells (n2 o)).2.1
  have x2 : ∀ o, (((w.alloc (.cells (cv c v) 25)).alloc (.cells (ec 4 i q 0) 27)).alloc o).cell? ⟨w.heap.size + 1, 2, none⟩ = some (.int .i64 (q : Int)) := fun o => (ecCells (n2 o)).2.2.1
  have x3 : ∀ o, (((w.alloc (.cells (cv c v) 25)).alloc (.cells (ec 4 i q 0) 27)).alloc o).cell? ⟨w.heap.size + 1, 3, none⟩ = some (.int .i64 0) := fun o => (ecCells (n2 o)).2.2.2
  obtain ⟨y0, y1, y2, y3⟩ := ecCells a2
  have HB1 := Lib.hid hb1
  clear hb1 a1 a2 n1 n2 hr hq
  go_enter Try.func64, Try.ntmps64
  go_wp2_with (go_at_call 52; refine (isnum_yes i c.r.length _ HR.out).mono ?_; rintro e w2 ⟨rfl, rfl⟩)
  go_region
  all_goals (go_wp2_with (go_at_call 52; refine (isnum_no q c.p.length _ HQ.out).mono ?_; rintro e w3 ⟨rfl, rfl⟩))
  all_goals go_ret
  all_goals exact ⟨by first | rfl | simp, by first | exact (HB1.out.trans ((box_below _ _).mono HB1.out.size)) | exact (HB1.out.trans ((box_below _ _).mono HB1.out.size)).drew⟩

/-- Does an event of the maker's fit, says the product. -/
theorem fits_any (c : Cl) (v : Vl) (x : Ev) (w : World) (hr : 1 ≤ c.r.length) (hg : Good c x) :
    Calls Try.prog 64 #[.agg (cv c v), .agg (ec x.k x.i x.q x.b)] w fun e w' => e = .returned (.bool (fitB c x)) ∧ Below w.heap.size w w' := by
  obtain ⟨k, i, q, b⟩ := x
  rcases hg with ⟨h1, h2, h3, h4⟩ | ⟨h1, h2, h3, h4⟩ | ⟨h1, h2, h3, h4⟩ | ⟨h1, h2, h3, h4⟩ <;> simp only at h1 h2 h3 h4 <;> subst h1
  · subst h2; subst h3
    exact fits1 c v b w h4 hr
  · subst h3; subst h4
    exact fits2 c v i w h2
  · subst h3; subst h4
    exact fits3 c v i w h2
  · subst h4
    by_cases hq : q < c.p.length
    · have e : fitB c ⟨4, i, q, 0⟩ = true := by
        have : (q == c.p.length) = false := beq_eq_false_iff_ne.2 (by omega)
        simp [fitB, this]
      rw [e]
      exact fits4 c v i q w h2 hq
    · have e : fitB c ⟨4, i, q, 0⟩ = false := by
        have : (q == c.p.length) = true := beq_iff_eq.2 (by omega)
        simp [fitB, this]
      rw [e]
      exact fits4n c v i q w h2 (by omega)

end Go.Proofs.Ytamcjhibdcbdnaa.Cl
