import Derived.Test.YtamcjhibdcbdnaaCSo
namespace Go.Proofs.Ytamcjhibdcbdnaa.Cl
open Go.RowKit
open Go.Proofs.Ytamcjhibdcbdnaa.Tp
set_option linter.unusedVariables false

set_option maxRecDepth 100000 in
set_option maxHeartbeats 1000000 in
theorem Dead_any (m B b : Nat) (c : Cl) (v : Vl) (w : World) (h : CL w B c v) (hok : Ok m c) (hm : m ≤ 100) (hb : b = 1 ∨ b = 2) :
    Calls Try.prog 32 #[.agg (cv c v), .int .i64 (b : Int)] w fun e w' => e = .returned (.bool (dead c b)) ∧ Below w.heap.size w w' := by
  have HB0 := Lib.hid (box_below w (.cells (cv c v) 25))
  have HR0 := Lib.hid (heap_alloc_new w (.cells (cv c v) 25))
  have HCH := Lib.hid (fun w' (hw : Below w.heap.size w w') => check_any m B c v w' (h.below hw) hok hm)
  have HNH := Lib.hid (fun w' (hw : Below w.heap.size w w') => newestHas_any m B c v b w' (h.below hw) hok hm (by omega))
  have HSA := Lib.hid (fun w' (hw : Below w.heap.size w w') => someAccepts_any m B b c v w' (h.below hw) hok hm (by omega))
  have hd : dead c b = (!has (newest c) b && !anyB (fun i => acc c i b) c.r.length) := by rw [dead, none_any]
  rw [hd]
  clear h hok hd
  generalize has (newest c) b = H at *
  generalize anyB (fun i => acc c i b) c.r.length = A at *
  simp only [cv] at HCH HNH HSA
  cases H with
  | true =>
    obtain ⟨c0, c1, c2, c3⟩ := cvCells _ _ _ _ _ _ HR0.out
    go_enter Try.func32, Try.ntmps32
    go_wp2_with fail
    refine (HCH.out _ HB0.out).mono ?_
    rintro e w1 ⟨rfl, hb1⟩
    have R1 := Lib.hid ((hb1.block _ (row_lt HR0.out)).trans HR0.out)
    have HB1 := Lib.hid (HB0.out.trans (hb1.mono HB0.out.size))
    clear hb1 c0 c1 c2 c3
    obtain ⟨c0, c1, c2, c3⟩ := cvCells _ _ _ _ _ _ R1.out
    go_wp2_with (go_at_call 66; (with_reducible refine (isbit_yes b _ hb).mono ?_); rintro e w2 ⟨rfl, rfl⟩)
    refine (HNH.out _ HB1.out).mono ?_
    rintro e w2 ⟨rfl, hb2⟩
    have R2 := Lib.hid ((hb2.block _ (row_lt R1.out)).trans R1.out)
    have HB2 := Lib.hid (HB1.out.trans (hb2.mono HB1.out.size))
    clear hb2 c0 c1 c2 c3
    go_wp2_with fail
    go_ret
    exact ⟨rfl, HB2.out⟩
  | false =>
    obtain ⟨c0, c1, c2, c3⟩ := cvCells _ _ _ _ _ _ HR0.out
    go_enter Try.func32, Try.ntmps32
    go_wp2_with fail
    refine (HCH.out _ HB0.out).mono ?_
    rintro e w1 ⟨rfl, hb1⟩
    have R1 := Lib.hid ((hb1.block _ (row_lt HR0.out)).trans HR0.out)
    have HB1 := Lib.hid (HB0.out.trans (hb1.mono HB0.out.size))
    clear hb1 c0 c1 c2 c3
    obtain ⟨c0, c1, c2, c3⟩ := cvCells _ _ _ _ _ _ R1.out
    go_wp2_with (go_at_call 66; (with_reducible refine (isbit_yes b _ hb).mono ?_); rintro e w2 ⟨rfl, rfl⟩)
    refine (HNH.out _ HB1.out).mono ?_
    rintro e w2 ⟨rfl, hb2⟩
    have R2 := Lib.hid ((hb2.block _ (row_lt R1.out)).trans R1.out)
    have HB2 := Lib.hid (HB1.out.trans (hb2.mono HB1.out.size))
    clear hb2 c0 c1 c2 c3
    obtain ⟨c0, c1, c2, c3⟩ := cvCells _ _ _ _ _ _ R2.out
    go_wp2_with fail
    refine (HSA.out _ HB2.out).mono ?_
    rintro e w3 ⟨rfl, hb3⟩
    have HB3 := Lib.hid (HB2.out.trans (hb3.mono HB2.out.size))
    clear hb3 c0 c1 c2 c3
    go_wp2_with fail
    go_ret
    exact ⟨by cases A <;> rfl, HB3.out⟩

end Go.Proofs.Ytamcjhibdcbdnaa.Cl
