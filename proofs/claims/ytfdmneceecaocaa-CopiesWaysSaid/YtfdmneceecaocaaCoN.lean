import Derived.Test.YtfdmneceecaocaaCoL
namespace Go.Proofs.Ytfdmneceecaocaa.Di
open Go.RowKit
open Go.Proofs.Ytfdmneceecaocaa.Tp
set_option linter.unusedVariables false
set_option linter.unusedSimpArgs false

theorem row_block {w : World} {g : Nat} {cs : Array Value} {t : TypeId} {s n : Nat} (h : w.heap[g]? = some (.cells cs t (0, 0))) (hn : cs.size = n * s) : Row w 0 s (some ⟨g, 0, none⟩) n cs.toList :=
  ⟨by simpa using hn, fun _ => ⟨g, 0, rfl, Nat.zero_le _, row_lt h, fun j u hj => by
    rw [Nat.zero_add, cell_of_row _ _ _ _ _ _ h, ← Array.getElem?_toList]
    exact hj⟩⟩
def evC : Obj := .cells #[.int .i64 1, .int .i64 5, .int .i64 0, .int .i64 0, .int .i64 0, .int .i64 3, .int .i64 0, .int .i64 2, .int .i64 7, .int .i64 1, .int .i64 0, .int .i64 0, .int .i64 0, .int .i64 0, .int .i64 3, .int .i64 6, .int .i64 0, .int .i64 0, .int .i64 0, .int .i64 3, .int .i64 0] 52
set_option maxRecDepth 100000 in
set_option maxHeartbeats 4000000 in
theorem awake29_of (HV : ∀ (v : Ve) (w : World), EL w 0 exC v → Calls Try.prog 49 #[.agg (ge exC v)] w fun e w' => e = .returned (.bool true) ∧ Below w.heap.size w w') (w : World) :
    Calls Try.prog 32 #[] w fun e w' => e = .returned (.bool true) ∧ Below w.heap.size w w' := by
  have h0 := heap_alloc_new w evC
  have hb1 := box_below w evC
  have hr : EL (w.alloc evC) 0 exC ⟨some ⟨w.heap.size, 0, none⟩, 3⟩ := row_block (s := 7) (n := 3) h0 rfl
  have hb2 := box_below (w.alloc evC) (.cells (ge exC ⟨some ⟨w.heap.size, 0, none⟩, 3⟩) 25)
  have h1 := heap_alloc_new (w.alloc evC) (.cells (ge exC ⟨some ⟨w.heap.size, 0, none⟩, 3⟩) 25)
  rw [show (w.alloc evC).heap.size = w.heap.size + 1 by simp] at h1
  have HR := Lib.hid (Row.below hr hb2)
  have HB := Lib.hid (hb1.trans (hb2.mono (by simp)))
  have H1 := Lib.hid h1
  have HF := Lib.hid (show (#[.int .i64 2, .slice (some ⟨w.heap.size, 0, none⟩) 3 3] : Array Value) = ge exC ⟨some ⟨w.heap.size, 0, none⟩, 3⟩ from rfl)
  clear h0 hb1 hr hb2
  obtain ⟨g0, g1⟩ := geCells h1
  replace g0 : World.cell? _ _ = some (.int .i64 2) := g0
  replace g1 : World.cell? _ _ = some (.slice (some ⟨w.heap.size, 0, none⟩) 3 3) := g1
  generalize hwa : (w.alloc evC).alloc (.cells (ge exC ⟨some ⟨w.heap.size, 0, none⟩, 3⟩) 25) = wa at *
  have hwa2 : (w.alloc evC).alloc (.cells #[.int .i64 2, .slice (some ⟨w.heap.size, 0, none⟩) 3 3] 25) = wa := hwa
  have HWA := Lib.hid hwa2
  have HWAY := Lib.hid (fun w' (hb : Below wa.heap.size wa w') => (by
    have h := way_any exC ⟨some ⟨w.heap.size, 0, none⟩, 3⟩ 3 5 1 2 w' (Row.below HR.out hb) exC_ok rfl (by decide) (by decide)
    unfold WaPost at h
    rw [show wyA exC.e 3 5 ((1 : Nat) : Int) = [0, 1] from exC_way, show wB exC 3 5 1 = true by decide] at h
    exact h : Calls Try.prog 40 #[.agg (ge exC ⟨some ⟨w.heap.size, 0, none⟩, 3⟩), .int .i64 3, .int .i64 1, .int .i64 5] w' fun e w2 => ∃ A cc, e = .returned (.tuple #[.slice A 2 cc, .bool true]) ∧ w2.ownsRow w'.heap.size 3 1 (.slice A 2 cc) 2 (iv [0, 1]) ∧ Below w'.heap.size w' w2))
  have HPRO := Lib.hid (fun w' (hb : Below wa.heap.size wa w') W cc hr => proves_ex ⟨some ⟨w.heap.size, 0, none⟩, 3⟩ W cc w' (Row.below HR.out hb) (Nat.le_refl _) (fun w2 h2 => HV _ w2 (Row.below HR.out (hb.trans (h2.mono hb.size)))) hr)
  have HWHE := Lib.hid (fun w' (hb : Below wa.heap.size wa w') => (by
    have h := where_any exC ⟨some ⟨w.heap.size, 0, none⟩, 3⟩ 3 5 2 w' (Row.below HR.out hb) exC_ok rfl (by decide)
    unfold SmPost at h
    rw [exC_where, show cnt (wB exC 3 5) 2 = 1 by decide] at h
    exact h : Calls Try.prog 35 #[.agg (ge exC ⟨some ⟨w.heap.size, 0, none⟩, 3⟩), .int .i64 3, .int .i64 5] w' fun e w2 => ∃ A cc, e = .returned (.slice A 1 cc) ∧ w2.ownsRow w'.heap.size 3 1 (.slice A 1 cc) 1 (iv [1]) ∧ Below w'.heap.size w' w2))
  have HSTA := Lib.hid (fun w' (hb : Below wa.heap.size wa w') => (by
    have h := stays_any exC ⟨some ⟨w.heap.size, 0, none⟩, 3⟩ 3 2 w' (Row.below HR.out hb) exC_ok rfl (by decide)
    unfold StPost stL at h
    rw [exC_times, exC_stays] at h
    exact h : Calls Try.prog 38 #[.agg (ge exC ⟨some ⟨w.heap.size, 0, none⟩, 3⟩), .int .i64 3] w' fun e w2 => ∃ A cc, e = .returned (.slice A 2 cc) ∧ w2.ownsRow w'.heap.size 66 3 (.slice A 2 cc) 2 (sv [⟨0, 1, 3⟩, ⟨1, 2, 1099511627777⟩]) ∧ Below w'.heap.size w' w2))
  have hW : w.heap.size + 1 < wa.heap.size := row_lt h1
  unfold evC at HWA
  clear hwa hwa2 HV
  have HQ := Lib.hid (fun w' (hb : Below wa.heap.size wa w') => (by
    have h := geCells ((hb.block _ hW).trans H1.out)
    exact h : w'.cell? ⟨w.heap.size + 1, 0, none⟩ = some (.int .i64 2) ∧ w'.cell? ⟨w.heap.size + 1, 1, none⟩ = some (.slice (some ⟨w.heap.size, 0, none⟩) 3 3)))
  clear h1
  go_enter Try.func32, Try.ntmps32
  go_wp2_with fail
  rw [HWA.out]
  go_wp2_with (first
    | (go_at_call 40; rw [HF.out]; refine (HWAY.out _ (Below.refl _ _)).mono ?_; rintro e w1 ⟨A1, cc1, rfl, hown1, hb1⟩; have B1 := Lib.hid hb1; have R1 := Lib.hid ((row_of_own hown1).base (Nat.zero_le _)); clear g0 g1; obtain ⟨g0, g1⟩ := HQ.out w1 hb1; clear hown1 hb1)
    | (go_at_call 42; rw [HF.out]; refine (HPRO.out _ B1.out _ _ R1.out).mono ?_; rintro e w2 ⟨rfl, hb2⟩; have B2 := Lib.hid (B1.out.trans (hb2.mono B1.out.size)); clear g0 g1; obtain ⟨g0, g1⟩ := HQ.out w2 B2.out; clear hb2)
    | (go_at_call 35; rw [HF.out]; refine (HWHE.out _ B2.out).mono ?_; rintro e w3 ⟨A3, cc3, rfl, hown3, hb3⟩; have B3 := Lib.hid (B2.out.trans (hb3.mono B2.out.size)); have R3 := Lib.hid (((row_of_own hown3).base (Nat.zero_le _)).below (box_below w3 (.cells #[.int .i64 1] 3))); have B3b := Lib.hid (B3.out.trans ((box_below w3 (.cells #[.int .i64 1] 3)).mono B3.out.size)); have K3 := Lib.hid (row_block (s := 1) (n := 1) (heap_alloc_new w3 (.cells #[.int .i64 1] 3)) rfl); clear g0 g1; obtain ⟨g0, g1⟩ := HQ.out _ B3b.out; clear hown3 hb3)
    | (go_at_call 20; (refine (ints_same A3 _ 1 cc3 _ [1] _ R3.out K3.out (by decide)).mono ?_); rintro e w4 ⟨rfl, hb4⟩; have B4 := Lib.hid (B3b.out.trans (hb4.mono B3b.out.size)); clear g0 g1; obtain ⟨g0, g1⟩ := HQ.out _ B4.out; clear hb4)
    | (go_at_call 38; rw [HF.out]; refine (HSTA.out _ B4.out).mono ?_; rintro e w5 ⟨A5, cc5, rfl, hown5, hb5⟩; have B5 := Lib.hid (B4.out.trans (hb5.mono B4.out.size)); have R5 := Lib.hid (((row_of_own hown5).base (Nat.zero_le _)).below (box_below w5 (.cells #[.int .i64 0, .int .i64 1, .int .i64 3, .int .i64 1, .int .i64 2, .int .i64 1099511627777] 66))); have B5b := Lib.hid (B5.out.trans ((box_below w5 (.cells #[.int .i64 0, .int .i64 1, .int .i64 3, .int .i64 1, .int .i64 2, .int .i64 1099511627777] 66)).mono B5.out.size)); have K5 := Lib.hid (row_block (s := 3) (n := 2) (heap_alloc_new w5 (.cells #[.int .i64 0, .int .i64 1, .int .i64 3, .int .i64 1, .int .i64 2, .int .i64 1099511627777] 66)) rfl); clear hown5 hb5)
    | (go_at_call 37; (refine (stays_same A5 _ 2 cc5 _ [⟨0, 1, 3⟩, ⟨1, 2, 1099511627777⟩] _ R5.out K5.out (by decide)).mono ?_); rintro e w6 ⟨rfl, hb6⟩; have B6 := Lib.hid (B5b.out.trans (hb6.mono B5b.out.size)); clear hb6))
  go_ret
  exact ⟨by first | rfl | simp, HB.out.trans (B6.out.mono HB.out.size)⟩

end Go.Proofs.Ytfdmneceecaocaa.Di
