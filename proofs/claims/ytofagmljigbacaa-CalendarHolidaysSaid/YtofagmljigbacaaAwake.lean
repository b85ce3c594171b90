import Derived.Test.YtofagmljigbacaaCal
import Derived.Laws.CopyOwn
namespace Go.Proofs.Ytofagmljigbacaa.Cal
open Go.RowKit
open Go.Proofs.Ytofagmljigbacaa.Tp
set_option linter.unusedVariables false

theorem week_ok (w : World) : CalOk w 24 8 16 31 none 0 [] := ⟨by omega, by omega, by omega, by omega, by omega, ⟨rfl, by omega, by simp, by simp, fun h => absurd h (by omega)⟩⟩

set_option maxRecDepth 100000 in
set_option maxHeartbeats 400000 in
theorem week_any (w : World) : Calls Try.prog 23 #[] w fun e w' => e = .returned (.agg (calC 24 8 16 31 none 0 0)) ∧ Below w.heap.size w w' := by
  have hz := zero24
  go_enter Try.func23, Try.ntmps23
  go_wp2_with (refine wpList_store_row rfl 24 _ _ rfl w.heap.size (calC 24 8 16 31 none 0 0) rfl rfl 24 (calC 0 0 0 0 none 0 0) (heap_alloc_new w _) (info24 _ _ _ _ _ _ _) rfl (calC_one _ _ _ _ _ _ _) ?_)
  exact bodyPost_ret (v := .agg (calC 24 8 16 31 none 0 0)) (results_cell_row rfl _ _ w.heap.size 24 (calC 24 8 16 31 none 0 0) (0, 0) _ rfl (setRow_heap _ _ _ _ _ _ (heap_alloc_new w _)) Try.underlying24 rfl (info24 _ _ _ _ _ _ _)) rfl
    ⟨rfl, below_setRow (box_below w _) (Nat.le_refl _) _⟩

theorem least_15_2 : Least (wk 24 8 16 31 []) 15 2 18 := by
  refine ⟨by decide, ?_⟩
  decide
theorem least_16_1 : Least (wk 24 8 16 31 []) 16 1 (16 + 1) := by
  refine ⟨by decide, ?_⟩
  decide
theorem wk_15 : wk 24 8 16 31 [] 15 = true := by decide
theorem wk_16 : wk 24 8 16 31 [] 16 = false := by decide
theorem cw_15 : cw (wk 24 8 16 31 []) 15 18 = 2 := by decide

set_option maxRecDepth 100000 in
set_option maxHeartbeats 600000 in
theorem awake_any (w : World) : Calls Try.prog 8 #[] w fun e w' => e = .returned (.bool true) ∧ Below w.heap.size w w' := by
  have h1 := fun w => Add_any 24 8 16 31 none 0 0 [] 15 2 18 w (week_ok w) (by omega) (by omega) (by omega) least_15_2
  have h2 := fun w => Between_any 24 8 16 31 none 0 0 [] 15 18 w (week_ok w) (by omega) (by omega)
  have h3 := fun w => Next_any 24 8 16 31 none 0 0 [] 16 16 w (week_ok w) (by omega) (by omega) least_16_1
  have h4 : ∀ w, Calls Try.prog 17 #[.agg (calC 24 8 16 31 none 0 0), .int .i64 15] w fun e w' => e = .returned (.bool (wk 24 8 16 31 [] 15)) ∧ Below w.heap.size w w' := fun w => Working_any 24 8 16 31 none 0 0 [] 15 w (week_ok w) (by omega)
  have h5 : ∀ w, Calls Try.prog 17 #[.agg (calC 24 8 16 31 none 0 0), .int .i64 16] w fun e w' => e = .returned (.bool (wk 24 8 16 31 [] 16)) ∧ Below w.heap.size w w' := fun w => Working_any 24 8 16 31 none 0 0 [] 16 w (week_ok w) (by omega)
  rw [cw_15] at h2
  rw [wk_15] at h4
  rw [wk_16] at h5
  have H1 := Lib.hid h1
  have H2 := Lib.hid h2
  have H3 := Lib.hid h3
  have H4 := Lib.hid h4
  have H5 := Lib.hid h5
  clear h1 h2 h3 h4 h5
  have B0 := Lib.hid (Below.refl w.heap.size w)
  go_enter Try.func8, Try.ntmps8
  go_wp2_with (first
    | (go_at_call 23; refine (week_any _).mono ?_; rintro e w1 ⟨rfl, hb⟩; have B1 := Lib.hid (B0.out.trans (hb.mono B0.out.size)); clear hb B0; have B0 := B1; clear B1)
    | (go_at_call 19; refine (H1.out _).mono ?_; rintro e w1 ⟨rfl, hb⟩; have B1 := Lib.hid (B0.out.trans (hb.mono B0.out.size)); clear hb B0; have B0 := B1; clear B1)
    | (go_at_call 15; refine (H2.out _).mono ?_; rintro e w1 ⟨rfl, hb⟩; have B1 := Lib.hid (B0.out.trans (hb.mono B0.out.size)); clear hb B0; have B0 := B1; clear B1)
    | (go_at_call 21; refine (H3.out _).mono ?_; rintro e w1 ⟨rfl, hb⟩; have B1 := Lib.hid (B0.out.trans (hb.mono B0.out.size)); clear hb B0; have B0 := B1; clear B1)
    | (go_at_call 17; (with_reducible refine (H4.out _).mono ?_); rintro e w1 ⟨rfl, hb⟩; have B1 := Lib.hid (B0.out.trans (hb.mono B0.out.size)); clear hb B0; have B0 := B1; clear B1)
    | (go_at_call 17; (with_reducible refine (H5.out _).mono ?_); rintro e w1 ⟨rfl, hb⟩; have B1 := Lib.hid (B0.out.trans (hb.mono B0.out.size)); clear hb B0; have B0 := B1; clear B1))
  go_ret
  exact ⟨rfl, B0.out⟩
end Go.Proofs.Ytofagmljigbacaa.Cal
