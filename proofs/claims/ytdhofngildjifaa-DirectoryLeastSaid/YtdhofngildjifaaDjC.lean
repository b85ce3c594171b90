import Derived.Test.YtdhofngildjifaaDjB
namespace Go.Proofs.Ytdhofngildjifaa.Di
open Go.RowKit
open Go.Proofs.Ytdhofngildjifaa.Tp
set_option linter.unusedVariables false

noncomputable def inB (d : Dy) (t p g : Nat) : Bool := @decide (InG d t p g) (Classical.propDecidable _)
theorem inB_iff (d : Dy) (t p g : Nat) : inB d t p g = true ↔ InG d t p g := by unfold inB; exact @decide_eq_true_iff _ (Classical.propDecidable _)
theorem inB_yes {d : Dy} {t p g : Nat} (h : InG d t p g) : inB d t p g = true := (inB_iff d t p g).2 h
theorem inB_no {d : Dy} {t p g : Nat} (h : ¬ InG d t p g) : inB d t p g = false := by
  cases hb : inB d t p g with
  | false => rfl
  | true => exact absurd ((inB_iff d t p g).1 hb) h

set_option maxRecDepth 100000 in
set_option maxHeartbeats 1000000 in
theorem in26_any (B : Nat) (d : Dy) (v : Vd) (p g t : Nat) (w : World) (h : DL w B d v) (hok : Ok d) :
    Calls Try.prog 26 #[.agg (gd d v), .int .i64 (p : Int), .int .i64 (g : Int), .int .i64 (t : Int)] w fun e w' => e = .returned (.bool (inB d t p g)) ∧ Below w.heap.size w w' := by
  have HB := Lib.hid (box_below w (.cells (gd d v) 25))
  have A1 := heap_alloc_new w (.cells (gd d v) 25)
  have hwy := why_any B d v p g t _ (h.below HB.out) hok
  have hfold : (#[.slice v.A1 d.k.length v.c1, .slice v.A2 d.e.length v.c2] : Array Value) = gd d v := rfl
  obtain ⟨g0, g1⟩ := gdCells A1
  have HWY := Lib.hid hwy
  have HF := Lib.hid hfold
  clear h hok hwy A1 hfold
  go_enter Try.func26, Try.ntmps26
  go_wp2_with fail
  rw [HF.out]
  refine HWY.out.mono ?_
  rintro e w1 hpost
  rcases hpost with ⟨hin, c, A, cc, rfl, hch, hrow, hb⟩ | ⟨hin, rfl, hb⟩
  · have HV := Lib.hid (inB_yes hin)
    have HB1 := Lib.hid (HB.out.trans (hb.mono HB.out.size))
    clear hin hch hrow hb
    go_wp2_with fail
    go_ret
    exact ⟨by rw [HV.out]; first | rfl | simp, HB1.out⟩
  · have HV := Lib.hid (inB_no hin)
    have HB1 := Lib.hid (HB.out.trans (hb.mono HB.out.size))
    clear hin hb
    go_wp2_with fail
    go_ret
    exact ⟨by rw [HV.out]; first | rfl | simp, HB1.out⟩

end Go.Proofs.Ytdhofngildjifaa.Di
