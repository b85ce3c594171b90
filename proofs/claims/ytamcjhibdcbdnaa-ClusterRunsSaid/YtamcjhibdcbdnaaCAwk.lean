import Derived.Test.YtamcjhibdcbdnaaCRun
import Derived.Test.YtamcjhibdcbdnaaCRig
import Derived.Test.YtamcjhibdcbdnaaCRAc
namespace Go.Proofs.Ytamcjhibdcbdnaa.Cl
open Go.RowKit
open Go.Proofs.Ytamcjhibdcbdnaa.Tp
set_option linter.unusedVariables false

set_option maxRecDepth 100000 in
set_option maxHeartbeats 400000 in
theorem ints_same (A A' : Option Addr) (n cc cc' : Nat) (l : List Nat) (w : World) (h1 : Row w 0 1 A n (iv l)) (h2 : Row w 0 1 A' n (iv l)) (hn : n ≤ 1000) :
    Calls Try.prog 49 #[.slice A n cc, .slice A' n cc'] w fun e w' => e = .returned (.bool true) ∧ Below w.heap.size w w' := by
  have H1 := Lib.hid h1
  have H2 := Lib.hid h2
  clear h1 h2
  go_enter Try.func49, Try.ntmps49
  go_wp2_with fail
  go_loopw [13] (fun ii wr => ∃ k : Nat, k ≤ n ∧ ii = .int .i64 k ∧ ∃ q, wr = w.drewN q) (fun ii _ => n - (intOf ii).toNat)
  case atStart => exact ⟨0, by omega, rfl, 0, rfl⟩
  case round =>
    obtain ⟨k, hk, rfl, q, rfl⟩ := hrel
    by_cases hlt : k < n
    · obtain ⟨b, off, hA, -, -, d0⟩ := H1.out.int hlt
      obtain ⟨b', off', hA', -, -, d0'⟩ := H2.out.int hlt
      subst hA hA'
      have i0 : (0 : Int) ≤ (k : Int) := by omega
      have i1 : (k : Int) < (n : Int) := by omega
      generalize l.getD k 0 = x at *
      go_wp2_with fail
      go_quiet (fail)
      go_wp2_with fail
      exact ⟨⟨k + 1, by omega, by go_num, _, rfl⟩, by simp [intOf]; omega⟩
    · obtain rfl : k = n := by omega
      go_wp2_with fail
      go_ret
      exact ⟨rfl, ⟨rfl, rfl, rfl, Nat.le_refl _, fun _ _ => rfl⟩⟩

def exE : List Ev := [⟨1, 0, 0, 2⟩, ⟨2, 1, 0, 0⟩]
def exC : Cl := rn (nw 2 1 true) exE 2
theorem exFits : Fits (nw 2 1 true) exE := by
  intro k hk
  have : k = 0 ∨ k = 1 := by simp [exE] at hk; omega
  rcases this with rfl | rfl
  · exact ⟨.inl ⟨rfl, rfl, rfl, by decide⟩, rfl⟩
  · exact ⟨.inr (.inl ⟨rfl, by decide, rfl, rfl⟩), rfl⟩
theorem exOk : Ok 2 exC := ok_rn (ok_nw 2 1 true (by omega) (by omega) (by omega)) exFits 2 (by decide)

theorem exRow (W : World) : Row (W.alloc (.cells #[.int .i64 1, .int .i64 0, .int .i64 0, .int .i64 2, .int .i64 2, .int .i64 1, .int .i64 0, .int .i64 0] 27)) 0 4 (some ⟨W.heap.size, 0, none⟩) 2 (el exE) := by
  refine ⟨rfl, fun _ => ⟨W.heap.size, 0, rfl, Nat.zero_le _, by simp, fun j u hj => ?_⟩⟩
  rw [Nat.zero_add, cell_of_row _ _ _ _ _ _ (heap_alloc_new W _)]
  have e : (#[.int .i64 1, .int .i64 0, .int .i64 0, .int .i64 2, .int .i64 2, .int .i64 1, .int .i64 0, .int .i64 0] : Array Value).toList = el exE := rfl
  rw [← e] at hj
  simpa using hj

set_option maxRecDepth 100000 in
set_option maxHeartbeats 1000000 in
theorem awake38 (w : World) : Calls Try.prog 37 #[] w fun e w' => e = .returned (.bool true) ∧ Below w.heap.size w w' := by
  have hnew : Calls Try.prog 17 #[.int .i64 2, .int .i64 1, .bool true] w (RPost (nw 2 1 true) w) := refnew_any 2 1 true w (by omega) (by omega) (by omega)
  have HNEW := Lib.hid hnew
  clear hnew
  go_enter Try.func37, Try.ntmps37
  go_wp2_with fail
  refine HNEW.out.mono ?_
  rintro e w1 ⟨v1, rfl, hc1, hb1⟩
  have hok1 := ok_nw 2 1 true (by omega) (by omega) (by omega)
  have hfits := exFits
  have hex : rn (nw 2 1 true) exE exE.length = exC := rfl
  have HEX := Lib.hid hex
  generalize nw 2 1 true = c at *
  have Q1 := Lib.hid (heap_alloc_new w1 (.cells (cv c v1) 25))
  have HB1 := Lib.hid (hb1.trans ((box_below w1 (.cells (cv c v1) 25)).mono hb1.size))
  have HC1 := Lib.hid (hc1.below (box_below w1 (.cells (cv c v1) 25)))
  have HOK1 := Lib.hid hok1
  have HFT := Lib.hid hfits
  have hl1 := hb1.size
  clear hc1 hb1 hok1 hfits hex
  have hrun : ∀ w', CL w' w.heap.size c v1 → Row w' 0 4 (some ⟨w1.heap.size + 1, 0, none⟩) 2 (el exE) → Calls Try.prog 28 #[.agg #[.bool c.f, .slice v1.A1 c.s.length v1.c1, .slice v1.A2 c.r.length v1.c2, .slice v1.A3 c.p.length v1.c3], .slice (some ⟨w1.heap.size + 1, 0, none⟩) 2 2] w' (RunPost c exE w') := fun w' hc hr => refrun_any 0 _ 2 2 _ c v1 exE w' hc HOK1.out (by omega) hr HFT.out
  have HRUN := Lib.hid hrun
  have hr0 := exRow (w1.alloc (.cells (cv c v1) 25))
  rw [show (w1.alloc (.cells (cv c v1) 25)).heap.size = w1.heap.size + 1 by simp] at hr0
  have HR0 := Lib.hid hr0
  clear hrun hr0
  obtain ⟨c0, c1, c2, c3⟩ := cvCells _ _ _ _ _ _ Q1.out
  go_wp2_with (refine wpList_store_row (o := ⟨none, .store 25 (.tmp 1) (.tmp 7), _, _, _, _⟩) rfl 25 (.tmp 1) (.tmp 7) rfl w1.heap.size (cv c v1) rfl rfl 25 zC (heap_alloc_new _ _) (info25 _ _) rfl (cv_one _ _) ?_; rw [new_set])
  refine (HRUN.out _ (HC1.out.below (box_below _ _)) HR0.out).mono ?_
  rintro e w2 ⟨v2, rfl, hc2, hb2, hcb⟩
  have hcb := hcb (by decide)
  have hex := HEX.out
  rw [hex] at hc2 hcb ⊢
  have hok2 := exOk
  have hR : right exC (ans exC exC.r.length) = true := rfl
  have hE : enough exC (ans exC exC.r.length) = false := rfl
  have hM : ms exC (ans exC exC.r.length) exC.r.length = [0] := rfl
  have hrr : ∀ j, j < exC.r.length → ((ans exC exC.r.length).getD j e0).r < exC.r.length := fun j hj => by
    rw [ans_at _ _ _ hj]
    exact hj
  have hr3 : exC.r.length ≤ 3 := by decide
  have hlen : exE.length = 2 := rfl
  rw [hlen]
  generalize exC = C at *
  have Q2 := Lib.hid ((hb2.block w1.heap.size (by simp; omega)).trans ((heap_alloc_old _ _ (row_lt Q1.out)).trans Q1.out))
  have HB2 := Lib.hid (HB1.out.trans (((box_below _ _).trans (hb2.mono (by simp))).mono HB1.out.size))
  have hq0 : NQ w1.heap.size C v2 := NQ.of_base hcb (by simp; omega)
  have HC2 := Lib.hid (hc2.setq hq0 (cv C v2))
  have HOK2 := Lib.hid hok2
  have HRR := Lib.hid hrr
  have HR := Lib.hid hR
  have HE := Lib.hid hE
  have HM := Lib.hid hM
  have Q3 := Lib.hid (setRow_heap _ _ _ (cv C v2) _ _ Q2.out)
  have HB3 := Lib.hid (below_setRow HB2.out (show w.heap.size ≤ w1.heap.size from hl1) (cv C v2))
  clear hb2 hc2 hcb hex hok2 hR hE hM hrr hlen c0 c1 c2 c3 hq0
  generalize hW3 : w2.setRow w1.heap.size (cv C v2) = W3 at *
  have HW3 := Lib.hid hW3
  clear hW3
  have hall : ∀ w', Below W3.heap.size W3 w' → Calls Try.prog 38 #[.agg #[.bool C.f, .slice v2.A1 C.s.length v2.c1, .slice v2.A2 C.r.length v2.c2, .slice v2.A3 C.p.length v2.c3]] w' (AllPost C w') := fun w' hb => all_any 2 0 C v2 w' (HC2.out.below hb) HOK2.out (by omega)
  have HALL := Lib.hid hall
  clear hall
  obtain ⟨c0, c1, c2, c3⟩ := cvCells _ _ _ _ _ _ Q3.out
  go_wp2_with (refine wpList_store_row (o := ⟨none, .store 25 (.tmp 1) (.tmp 15), _, _, _, _⟩) rfl 25 (.tmp 1) (.tmp 15) rfl w1.heap.size (cv C v2) rfl rfl 25 (cv c v1) Q2.out (info25 _ _) rfl (cv_one _ _) ?_; rw [HW3.out])
  refine (HALL.out _ (Below.refl _ _)).mono ?_
  rintro e w4 ⟨A, cc, rfl, hrow, hb4⟩
  have hb4' := hb4
  have Q4 := Lib.hid ((hb4.block w1.heap.size (row_lt Q3.out)).trans Q3.out)
  have HB4 := Lib.hid (HB3.out.trans (hb4.mono HB3.out.size))
  have HC4 := Lib.hid (HC2.out.below hb4)
  have HROW := Lib.hid hrow
  clear hb4 hb4' hrow c0 c1 c2 c3
  have hri : ∀ w', Below w4.heap.size w4 w' → Calls Try.prog 45 #[.agg #[.bool C.f, .slice v2.A1 C.s.length v2.c1, .slice v2.A2 C.r.length v2.c2, .slice v2.A3 C.p.length v2.c3], .slice A C.r.length cc] w' fun e w'' => e = .returned (.bool true) ∧ Below w'.heap.size w' w'' := fun w' hb => by
    have := right_any 2 0 _ _ cc A C v2 _ w' (HC4.out.below hb) HOK2.out (by omega) (HROW.out.below hb) (by omega) HRR.out
    rw [HR.out] at this
    exact this
  have hen : ∀ w', Below w4.heap.size w4 w' → Calls Try.prog 47 #[.agg #[.bool C.f, .slice v2.A1 C.s.length v2.c1, .slice v2.A2 C.r.length v2.c2, .slice v2.A3 C.p.length v2.c3], .slice A C.r.length cc] w' fun e w'' => e = .returned (.bool false) ∧ Below w'.heap.size w' w'' := fun w' hb => by
    have := enough_any 2 0 _ _ cc A C v2 _ w' (HC4.out.below hb) HOK2.out (by omega) (HROW.out.below hb) (by omega)
    rw [HE.out] at this
    exact this
  have hms : ∀ w', Below w4.heap.size w4 w' → Calls Try.prog 50 #[.agg #[.bool C.f, .slice v2.A1 C.s.length v2.c1, .slice v2.A2 C.r.length v2.c2, .slice v2.A3 C.p.length v2.c3], .slice A C.r.length cc] w' fun e w'' => ∃ A' cc', e = .returned (.slice A' 1 cc') ∧ Row w'' w'.heap.size 1 A' 1 (iv [0]) ∧ Below w'.heap.size w' w'' := fun w' hb => by
    have := missing_any 2 0 _ _ cc A C v2 _ w' (HC4.out.below hb) HOK2.out (by omega) (HROW.out.below hb) (by omega)
    unfold MsPost at this
    rw [HM.out] at this
    exact this
  have HRI := Lib.hid hri
  have HEN := Lib.hid hen
  have HMS := Lib.hid hms
  clear hri hen hms
  obtain ⟨c0, c1, c2, c3⟩ := cvCells _ _ _ _ _ _ Q4.out
  go_wp2_with fail
  refine (HRI.out _ (Below.refl _ _)).mono ?_
  rintro e w5 ⟨rfl, hb5⟩
  have Q5 := Lib.hid ((hb5.block w1.heap.size (row_lt Q4.out)).trans Q4.out)
  have HB5 := Lib.hid hb5
  clear hb5 c0 c1 c2 c3
  obtain ⟨c0, c1, c2, c3⟩ := cvCells _ _ _ _ _ _ Q5.out
  go_wp2_with fail
  refine (HEN.out _ HB5.out).mono ?_
  rintro e w6 ⟨rfl, hb6⟩
  have Q6 := Lib.hid ((hb6.block w1.heap.size (row_lt Q5.out)).trans Q5.out)
  have HB6 := Lib.hid (HB5.out.trans (hb6.mono HB5.out.size))
  clear hb6 c0 c1 c2 c3
  obtain ⟨c0, c1, c2, c3⟩ := cvCells _ _ _ _ _ _ Q6.out
  go_wp2_with fail
  refine (HMS.out _ HB6.out).mono ?_
  rintro e w7 ⟨A', cc', rfl, hr7, hb7⟩
  have HR7 := Lib.hid (hr7.base (Nat.zero_le _))
  have HB7 := Lib.hid (HB6.out.trans (hb7.mono HB6.out.size))
  have HLIT := Lib.hid (lits_row w7 w7.heap.size rfl [0] #[.int .i64 0] rfl 3)
  clear hb7 hr7 c0 c1 c2 c3
  go_wp2_with fail
  refine (ints_same _ _ 1 _ _ [0] _ (HR7.out.below (box_below _ _)) (HLIT.out.base (Nat.zero_le _)) (by omega)).mono ?_
  rintro e w8 ⟨rfl, hb8⟩
  have HB8 := Lib.hid (HB4.out.trans ((HB7.out.trans (((box_below _ _).trans (hb8.mono (by simp))).mono HB7.out.size)).mono HB4.out.size))
  clear hb8
  go_wp2_with fail
  go_ret
  exact ⟨rfl, HB8.out⟩

end Go.Proofs.Ytamcjhibdcbdnaa.Cl
