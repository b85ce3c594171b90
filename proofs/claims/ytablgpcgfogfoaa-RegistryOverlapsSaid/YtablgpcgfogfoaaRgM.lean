import Derived.Test.YtablgpcgfogfoaaRgL
namespace Go.Proofs.Ytablgpcgfogfoaa.Rg
open Go.RowKit
open Go.Proofs.Ytablgpcgfogfoaa.Tp
set_option linter.unusedVariables false

def nmA : ByteArray := ⟨#[97]⟩
theorem nm_A : Nm nmA := .inl rfl
def aw0 : Rg := ⟨[1], []⟩
def ax1 : Cr := ⟨0, 0, 0, 0, 10⟩
def ax2 : Cr := ⟨0, 0, 0, 10, 20⟩
def ax3 : Cr := ⟨0, 0, 0, 9, 20⟩
theorem aw_wf : Wf aw0 := ⟨by decide, by decide, fun i hi => by
  have : i < 1 := hi
  obtain rfl : i = 0 := by omega
  exact ⟨by decide, by decide⟩, fun j hj => (Nat.not_lt_zero j hj).elim⟩
theorem aw_c1 : Cw aw0 ax1 := ⟨by decide, by decide, by decide, by decide, by decide⟩
theorem aw_c2 : Cw (add aw0 ax1) ax2 := ⟨by decide, by decide, by decide, by decide, by decide⟩
theorem aw_c3 : Cw (add aw0 ax1) ax3 := ⟨by decide, by decide, by decide, by decide, by decide⟩
theorem aw_k1 : crowd (add aw0 ax1) = false := by decide
theorem aw_k2 : crowd (add (add aw0 ax1) ax2) = false := by decide
theorem aw_k3 : crowd (add (add aw0 ax1) ax3) = true := by decide
theorem aw_w1 : Wf (add aw0 ax1) := aw_wf.add aw_c1 (by decide)
theorem aw_w2 : Wf (add (add aw0 ax1) ax2) := aw_w1.add aw_c2 (by decide)
theorem aw_v1 : val (cg (add (add aw0 ax1) ax2) 1) 10 = true := by decide
theorem aw_v0 : val (cg (add (add aw0 ax1) ax2) 0) 10 = false := by decide

set_option maxRecDepth 100000 in
set_option maxHeartbeats 2000000 in
theorem awake_any (w : World) : Calls Try.prog 9 #[] w fun e w' => e = .returned (.bool true) ∧ Below w.heap.size w w' := by
  have hr0 := two_row w (.string nmA) (.int .i64 1) 60
  have hb0 := box_below w (.cells #[.string nmA, .int .i64 1] 60)
  have N0 := Lib.hid (heap_alloc2_new w (.cells #[.string nmA, .int .i64 1] 60) (.cells (gv aw0 ⟨some ⟨w.heap.size, 0, none⟩, 1, none, 0⟩) 26))
  have hb1 := box_below (w.alloc (.cells #[.string nmA, .int .i64 1] 60)) (.cells (gv aw0 ⟨some ⟨w.heap.size, 0, none⟩, 1, none, 0⟩) 26)
  have HB := Lib.hid (hb0.trans (hb1.mono hb0.size))
  have HL0 := Lib.hid (show RL _ 0 nmA aw0 ⟨some ⟨w.heap.size, 0, none⟩, 1, none, 0⟩ from ⟨hr0.below hb1, ⟨rfl, fun h => (Nat.lt_irrefl 0 h).elim⟩⟩)
  have HI1 := Lib.hid (fun w' (h : RL w' 0 nmA aw0 ⟨some ⟨w.heap.size, 0, none⟩, 1, none, 0⟩) => issue_any 0 nmA aw0 _ ax1 w' h nm_A aw_wf aw_c1 rfl (by decide))
  have HI2 := Lib.hid (fun B v w' (h : RL w' B nmA (add aw0 ax1) v) => issue_any B nmA (add aw0 ax1) v ax2 w' h nm_A aw_w1 aw_c2 aw_k1 (by decide))
  have HI3 := Lib.hid (fun B v w' (h : RL w' B nmA (add aw0 ax1) v) => issue_any B nmA (add aw0 ax1) v ax3 w' h nm_A aw_w1 aw_c3 aw_k1 (by decide))
  clear hr0 hb0 hb1
  unfold nmA at N0 HB HL0
  simp only [gv] at N0 HB HL0
  go_enter Try.func9, Try.ntmps9
  go_wp2_with fail
  refine (HI1.out _ HL0.out).mono ?_
  rintro e w2 hp
  obtain ⟨v1, rfl, hr1, hb1⟩ : ∃ v', e = .returned (.tuple #[.agg (gv (add aw0 ax1) v'), .int .i64 0, .int .i64 0]) ∧ RL w2 _ nmA (add aw0 ax1) v' ∧ Below _ _ w2 := by
    rcases hp with ⟨h, _⟩ | ⟨_, h⟩
    · rw [aw_k1] at h; cases h
    · exact h
  have l2 := hb1.size
  simp at l2
  have hrn := (hb1.block (w.heap.size + 1) (by simp)).trans N0.out
  have N2 := Lib.hid hrn
  have HB2 := Lib.hid (HB.out.trans (hb1.mono HB.out.size))
  have HR2 := Lib.hid (hr1.base (show w.heap.size + 2 ≤ _ by simp))
  have hr1' := HR2.out
  clear hb1 hr1 hrn HI1 HL0
  clear hp
  have hw1 := aw_k2
  have hw3 := aw_k3
  have hwf := aw_w2
  have hv0 := aw_v0
  have hv1 := aw_v1
  have hlen : (((add aw0 ax1).c.length : Nat) : Int) = 1 := rfl
  have hlen2 : (add (add aw0 ax1) ax2).c.length = 2 := rfl
  have hslen : (add (add aw0 ax1) ax2).s.length = 1 := rfl
  generalize add aw0 ax1 = R1 at *
  have HQ1 := Lib.hid (setRow_heap _ _ _ (gv R1 v1) _ _ N2.out)
  have HR3 := Lib.hid (hr1'.set (show w.heap.size + 1 < w.heap.size + 2 by omega) (gv R1 v1))
  have HB3 := Lib.hid (below_setRow HB2.out (show w.heap.size ≤ w.heap.size + 1 by omega) (gv R1 v1))
  generalize hW3 : w2.setRow (w.heap.size + 1) (gv R1 v1) = W3 at *
  have HW3 := Lib.hid hW3
  clear hW3 hr1'
  go_wp2_with (first
    | (with_reducible (show wpList _ _ _ (⟨none, .store 26 (.tmp 1) (.tmp 17), _, _, _, _⟩ :: _) _ _); refine wpList_store_row (o := ⟨none, .store 26 (.tmp 1) (.tmp 17), _, _, _, _⟩) rfl 26 (.tmp 1) (.tmp 17) rfl (w.heap.size + 1) (gv R1 v1) rfl rfl 26 _ N2.out (info26 _ _) rfl (gv_one _ _) ?_; rw [HW3.out])
    | (with_reducible (show wpList _ _ _ (⟨some 21, .load 26 (.tmp 1), _, _, _, _⟩ :: _) _ _); refine wpList_load_row (o := ⟨some 21, .load 26 (.tmp 1), _, _, _, _⟩) rfl 26 (.tmp 1) rfl (w.heap.size + 1) rfl 26 (gv R1 v1) (0, 0) _ HQ1.out Try.underlying26 rfl (info26 _ _) ?_))
  refine (HI2.out _ _ _ HR3.out).mono ?_
  rintro e w4 hp
  obtain ⟨v2, rfl, hr2, hb2⟩ : ∃ v', e = .returned (.tuple #[.agg (gv (add R1 ax2) v'), .int .i64 ((R1.c.length : Nat) : Int), .int .i64 0]) ∧ RL w4 _ nmA (add R1 ax2) v' ∧ Below _ _ w4 := by
    rcases hp with ⟨h, _⟩ | ⟨_, h⟩
    · rw [hw1] at h; cases h
    · exact h
  rw [hlen]
  have l4 := hb2.size
  have lq := row_lt HQ1.out
  have N4 := Lib.hid ((hb2.block (w.heap.size + 1) lq).trans HQ1.out)
  have HB4 := Lib.hid (HB3.out.trans (hb2.mono HB3.out.size))
  have HR14 := Lib.hid (HR3.out.below hb2)
  have HR4 := Lib.hid (hr2.base (show w.heap.size + 2 ≤ W3.heap.size from lq))
  clear hb2 hr2 hp hlen
  generalize add R1 ax2 = R2 at *
  have hbx := box_below w4 (.cells (gv R2 v2) 26)
  have N5 := Lib.hid ((hbx.block (w.heap.size + 1) (row_lt N4.out)).trans N4.out)
  have M5 := Lib.hid (heap_alloc_new w4 (.cells (gv R2 v2) 26))
  have HB5 := Lib.hid (HB4.out.trans (hbx.mono HB4.out.size))
  have HR15 := Lib.hid (HR14.out.below hbx)
  have HR5 := Lib.hid (HR4.out.below hbx)
  clear hbx
  go_wp2_with (first
    | (with_reducible (show wpList _ _ _ (⟨none, .store 26 (.tmp 4) (.tmp 24), _, _, _, _⟩ :: _) _ _); refine wpList_store_row (o := ⟨none, .store 26 (.tmp 4) (.tmp 24), _, _, _, _⟩) rfl 26 (.tmp 4) (.tmp 24) rfl w4.heap.size (gv R2 v2) rfl rfl 26 zG (heap_alloc_new _ _) (info26 _ _) rfl (gv_one _ _) ?_; rw [new_set])
    | (with_reducible (show wpList _ _ _ (⟨some 28, .load 26 (.tmp 1), _, _, _, _⟩ :: _) _ _); refine wpList_load_row (o := ⟨some 28, .load 26 (.tmp 1), _, _, _, _⟩) rfl 26 (.tmp 1) rfl (w.heap.size + 1) rfl 26 (gv R1 v1) (0, 0) _ N5.out Try.underlying26 rfl (info26 _ _) ?_))
  generalize w4.heap.size = J at *
  refine (HI3.out _ _ _ HR15.out).mono ?_
  rintro e w6 hp
  obtain ⟨rfl, hb6⟩ : e = .returned (.tuple #[.agg zG, .int .i64 0, .int .i64 31]) ∧ Below _ _ w6 := by
    rcases hp with ⟨_, h⟩ | ⟨h, _⟩
    · exact h
    · rw [hw3] at h; cases h
  have M6 := Lib.hid ((hb6.block J (row_lt M5.out)).trans M5.out)
  have HB6 := Lib.hid (HB5.out.trans (hb6.mono HB5.out.size))
  have HR6 := Lib.hid (HR5.out.below hb6)
  clear hb6 hp
  have hbx := box_below w6 (.cells zG 26)
  have M7 := Lib.hid ((hbx.block J (row_lt M6.out)).trans M6.out)
  have HB7 := Lib.hid (HB6.out.trans (hbx.mono HB6.out.size))
  have HR7 := Lib.hid (HR6.out.below hbx)
  clear hbx
  have HGD := Lib.hid (show Gd (w6.alloc (.cells zG 26)) (w.heap.size + 2) nmA R2 v2 from ⟨HR7.out, nm_A, hwf, hw1⟩)
  have hvv1 := fun w' (hg : Gd w' (w.heap.size + 2) nmA R2 v2) => valid_any _ nmA R2 v2 1 10 w' hg (by rw [hlen2]; omega)
  have hvv0 := fun w' (hg : Gd w' (w.heap.size + 2) nmA R2 v2) => valid_any _ nmA R2 v2 0 10 w' hg (by rw [hlen2]; omega)
  have e0 : ((0 : Nat) : Int) = 0 := rfl
  have e1 : ((1 : Nat) : Int) = 1 := rfl
  have e10 : ((10 : Nat) : Int) = 10 := rfl
  rw [hv1, e1, e10] at hvv1
  rw [hv0, e0, e10] at hvv0
  have HV1 := Lib.hid (hvv1 _ HGD.out)
  have HV0 := Lib.hid (fun w' (hb : Below (w6.alloc (.cells zG 26)).heap.size (w6.alloc (.cells zG 26)) w') => hvv0 _ (HGD.out.below hb))
  clear hvv1 hvv0 e0 e1 e10 hw1 hw3 hwf hv0 hv1 hlen2 hslen
  simp only [gv] at HV1 HV0
  obtain ⟨y0, y1⟩ := gvCells M7.out
  go_wp2_with (with_reducible (show wpList _ _ _ (⟨none, .store 26 (.tmp 7) (.tmp 31), _, _, _, _⟩ :: _) _ _); refine wpList_store_row (o := ⟨none, .store 26 (.tmp 7) (.tmp 31), _, _, _, _⟩) rfl 26 (.tmp 7) (.tmp 31) rfl w6.heap.size zG rfl rfl 26 zG (heap_alloc_new _ _) infozG rfl zg_one ?_; rw [new_set])
  refine HV1.out.mono ?_
  rintro e w8 ⟨rfl, hb8⟩
  have M8 := Lib.hid ((hb8.block J (row_lt M7.out)).trans M7.out)
  have HB8 := Lib.hid (HB7.out.trans (hb8.mono HB7.out.size))
  have HX8 := Lib.hid hb8
  clear hb8 y0 y1
  obtain ⟨y0, y1⟩ := gvCells M8.out
  go_wp2_with fail
  refine (HV0.out _ HX8.out).mono ?_
  rintro e w9 ⟨rfl, hb9⟩
  have HB9 := Lib.hid (HB8.out.trans (hb9.mono HB8.out.size))
  clear hb9 y0 y1
  go_wp2_with fail
  go_ret
  exact ⟨rfl, HB9.out⟩

end Go.Proofs.Ytablgpcgfogfoaa.Rg
