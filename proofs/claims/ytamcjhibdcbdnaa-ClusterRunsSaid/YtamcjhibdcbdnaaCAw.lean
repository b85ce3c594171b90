import Derived.Test.YtamcjhibdcbdnaaCRp
import Derived.Test.YtamcjhibdcbdnaaCNw
import Derived.Test.YtamcjhibdcbdnaaCDe
namespace Go.Proofs.Ytamcjhibdcbdnaa.Cl
open Go.RowKit
open Go.Proofs.Ytamcjhibdcbdnaa.Tp
set_option linter.unusedVariables false

def axE : List Ev := [⟨3, 0, 0, 0⟩, ⟨1, 0, 0, 2⟩, ⟨2, 0, 0, 0⟩]
def axC : Cl := rn (nw 1 1 false) axE 3
def axR : Ev := ⟨4, 0, 0, 0⟩
theorem axFits : RunK (nw 1 1 false) axE 3 := by
  refine ⟨by decide, fun k hk => ?_, fun h => absurd h (by decide)⟩
  have : k = 0 ∨ k = 1 ∨ k = 2 := by omega
  rcases this with rfl | rfl | rfl
  · exact ⟨.inr (.inr (.inl ⟨rfl, by decide, rfl, rfl⟩)), rfl⟩
  · exact ⟨.inl ⟨rfl, rfl, rfl, by decide⟩, rfl⟩
  · exact ⟨.inr (.inl ⟨rfl, by decide, rfl, rfl⟩), rfl⟩
theorem axOk : Ok 3 axC := ok_rnk (ok_nw 1 1 false (by omega) (by omega) (by omega)) axFits 3 (by decide)
theorem axGood : Good axC axR := .inr (.inr (.inr ⟨rfl, by decide, by decide, rfl⟩))
theorem axFit : fitB axC axR = true := rfl
theorem axOk2 : Ok 4 (ap axC axR) := ok_ap axOk axGood axFit

theorem axEv : ev axR = #[.int .i64 4, .int .i64 0, .int .i64 0, .int .i64 0] := rfl
theorem dead_1 {m B : Nat} {c : Cl} {v : Vl} {w : World} (h : CL w B c v) (hok : Ok m c) (hm : m ≤ 100) : Calls Try.prog 32 #[.agg #[.bool c.f, .slice v.A1 c.s.length v.c1, .slice v.A2 c.r.length v.c2, .slice v.A3 c.p.length v.c3], .int .i64 1] w (fun e w' => e = .returned (.bool (dead c 1)) ∧ Below w.heap.size w w') := by
  have h := Dead_any m B 1 c v w h hok hm (.inl rfl)
  have e1 : ((1 : Nat) : Int) = 1 := rfl
  rw [e1] at h
  exact h
theorem acc_p {m B i : Nat} {c : Cl} {v : Vl} {w : World} (h : CL w B c v) (hok : Ok m c) (hm : m ≤ 100) (hi : i < c.r.length) : Calls Try.prog 29 #[.agg #[.bool c.f, .slice v.A1 c.s.length v.c1, .slice v.A2 c.r.length v.c2, .slice v.A3 c.p.length v.c3], .int .i64 (i : Int), .int .i64 1] w (fun e w' => e = .returned (.bool (acc c i 1)) ∧ Below w.heap.size w w') := by
  have h := Accepts_any m B i 1 c v w h hok hm hi (.inl rfl)
  have e1 : ((1 : Nat) : Int) = 1 := rfl
  rw [e1] at h
  exact h

theorem axRow (W : World) : Row (W.alloc (.cells #[.int .i64 3, .int .i64 0, .int .i64 0, .int .i64 0, .int .i64 1, .int .i64 0, .int .i64 0, .int .i64 2, .int .i64 2, .int .i64 0, .int .i64 0, .int .i64 0] 27)) 0 4 (some ⟨W.heap.size, 0, none⟩) 3 (el axE) := by
  refine ⟨rfl, fun _ => ⟨W.heap.size, 0, rfl, Nat.zero_le _, by simp, fun j u hj => ?_⟩⟩
  rw [Nat.zero_add, cell_of_row _ _ _ _ _ _ (heap_alloc_new W _)]
  have e : (#[.int .i64 3, .int .i64 0, .int .i64 0, .int .i64 0, .int .i64 1, .int .i64 0, .int .i64 0, .int .i64 2, .int .i64 2, .int .i64 0, .int .i64 0, .int .i64 0] : Array Value).toList = el axE := rfl
  rw [← e] at hj
  simpa using hj

set_option maxRecDepth 100000 in
set_option maxHeartbeats 1000000 in
theorem awake36 (w : World) : Calls Try.prog 13 #[] w fun e w' => e = .returned (.bool true) ∧ Below w.heap.size w w' := by
  have HNEW := Lib.hid (pnew_one w)
  go_enter Try.func13, Try.ntmps13
  go_wp2_with fail
  refine HNEW.out.mono ?_
  rintro e w1 ⟨v1, rfl, hc1, hb1⟩
  have hok1 := ok_nw 1 1 false (by omega) (by omega) (by omega)
  have hfits := axFits
  have hex : rn (nw 1 1 false) axE 3 = axC := rfl
  have HEX := Lib.hid hex
  generalize nw 1 1 false = c at *
  have Q1 := Lib.hid (heap_alloc_new w1 (.cells (cv c v1) 25))
  have HB1 := Lib.hid (hb1.trans ((box_below w1 (.cells (cv c v1) 25)).mono hb1.size))
  have HC1 := Lib.hid (hc1.below (box_below w1 (.cells (cv c v1) 25)))
  have HOK1 := Lib.hid hok1
  have HFT := Lib.hid hfits
  have hl1 := hb1.size
  clear hc1 hb1 hok1 hfits hex
  have hrun : ∀ w', CL w' w.heap.size c v1 → Row w' 0 4 (some ⟨w1.heap.size + 1, 0, none⟩) 3 (el axE) → Calls Try.prog 27 #[.agg #[.bool c.f, .slice v1.A1 c.s.length v1.c1, .slice v1.A2 c.r.length v1.c2, .slice v1.A3 c.p.length v1.c3], .slice (some ⟨w1.heap.size + 1, 0, none⟩) 3 3] w' (RunP c axE 3 w') := fun w' hc hr => run_any 0 _ 3 3 3 _ c v1 axE w' hc HOK1.out (by omega) hr HFT.out
  have HRUN := Lib.hid hrun
  have hr0 := axRow (w1.alloc (.cells (cv c v1) 25))
  rw [show (w1.alloc (.cells (cv c v1) 25)).heap.size = w1.heap.size + 1 by simp] at hr0
  have HR0 := Lib.hid hr0
  clear hrun hr0
  obtain ⟨c0, c1, c2, c3⟩ := cvCells _ _ _ _ _ _ Q1.out
  go_wp2_with (with_reducible (show wpList _ _ _ (⟨none, .store 25 (.tmp 1) (.tmp 9), _, _, _, _⟩ :: _) _ _); refine wpList_store_row (o := ⟨none, .store 25 (.tmp 1) (.tmp 9), _, _, _, _⟩) rfl 25 (.tmp 1) (.tmp 9) rfl w1.heap.size (cv c v1) rfl rfl 25 zC (heap_alloc_new _ _) (info25 _ _) rfl (cv_one _ _) ?_; rw [new_set])
  refine (HRUN.out _ (HC1.out.below (box_below _ _)) HR0.out).mono ?_
  rintro e w2 ⟨v2, rfl, hc2, hb2⟩
  have hex := HEX.out
  rw [hex] at hc2 ⊢
  have hne : rne axE 3 = 0 := rfl
  have hlen : ((3 : Nat) : Int) = 3 := rfl
  rw [hne, hlen]
  have hok2 := axOk
  have hg2 := axGood
  have hf2 := axFit
  have hok3 := axOk2
  have hdead : dead axC 1 = true := rfl
  have hacc : acc (ap axC axR) 0 1 = true := rfl
  have hev := axEv
  have hr3 : 0 < (ap axC axR).r.length := by decide
  generalize axC = C at *
  generalize axR = x at *
  have HAP := Lib.hid (fun w' (hc : CL w' (w1.heap.size + 1) C v2) => apply_any 3 _ C v2 x w' hc hok2 (by omega) hg2)
  rw [hev] at HAP
  have HFIT := Lib.hid hf2
  have HDE := Lib.hid (fun w' (hc : CL w' (w1.heap.size + 1) C v2) => dead_1 hc hok2 (by omega))
  have HDT := Lib.hid hdead
  have HAT := Lib.hid hacc
  have HOK3 := Lib.hid hok3
  have HR3 := Lib.hid hr3
  have Q2 := Lib.hid ((hb2.block w1.heap.size (by simp; omega)).trans ((heap_alloc_old _ _ (row_lt Q1.out)).trans Q1.out))
  have HB2 := Lib.hid (HB1.out.trans (((box_below _ _).trans (hb2.mono (by simp))).mono HB1.out.size))
  have HC2 := Lib.hid ((hc2.base (show w1.heap.size + 1 ≤ _ by simp)).set (show w1.heap.size < w1.heap.size + 1 by omega) (cv C v2))
  have Q3 := Lib.hid (setRow_heap _ _ _ (cv C v2) _ _ Q2.out)
  have HB3 := Lib.hid (below_setRow HB2.out (show w.heap.size ≤ w1.heap.size from hl1) (cv C v2))
  clear hb2 hc2 hex hok2 hg2 hf2 hok3 hdead hacc hr3 hev hne hlen c0 c1 c2 c3
  generalize hW3 : w2.setRow w1.heap.size (cv C v2) = W3 at *
  have HW3 := Lib.hid hW3
  clear hW3
  obtain ⟨c0, c1, c2, c3⟩ := cvCells _ _ _ _ _ _ Q3.out
  go_wp2_with (with_reducible (show wpList _ _ _ (⟨none, .store 25 (.tmp 1) (.tmp 18), _, _, _, _⟩ :: _) _ _); refine wpList_store_row (o := ⟨none, .store 25 (.tmp 1) (.tmp 18), _, _, _, _⟩) rfl 25 (.tmp 1) (.tmp 18) rfl w1.heap.size (cv C v2) rfl rfl 25 (cv c v1) Q2.out (info25 _ _) rfl (cv_one _ _) ?_; rw [HW3.out])
  refine (HDE.out _ HC2.out).mono ?_
  rintro e w4 ⟨rfl, hb4⟩
  rw [HDT.out]
  have Q4 := Lib.hid ((hb4.block w1.heap.size (row_lt Q3.out)).trans Q3.out)
  have HB4 := Lib.hid (HB3.out.trans (hb4.mono HB3.out.size))
  have HC4 := Lib.hid (HC2.out.below hb4)
  clear hb4 c0 c1 c2 c3
  obtain ⟨c0, c1, c2, c3⟩ := cvCells _ _ _ _ _ _ Q4.out
  go_wp2_with fail
  refine (HAP.out _ HC4.out).mono ?_
  rintro e w5 hp
  obtain ⟨v5, rfl, hc5, hb5⟩ : RPost (ap C x) w4 e w5 := by
    rcases hp with ⟨_, hp⟩ | ⟨hf, _⟩
    · exact hp
    · rw [HFIT.out] at hf
      cases hf
  generalize ap C x = C5 at *
  have Q5 := Lib.hid ((hb5.block w1.heap.size (row_lt Q4.out)).trans Q4.out)
  have HB5 := Lib.hid (HB4.out.trans (hb5.mono HB4.out.size))
  have HC5 := Lib.hid ((hc5.base (show w1.heap.size + 1 ≤ w4.heap.size from row_lt Q4.out)).set (show w1.heap.size < w1.heap.size + 1 by omega) (cv C5 v5))
  have Q6 := Lib.hid (setRow_heap _ _ _ (cv C5 v5) _ _ Q5.out)
  have HB6 := Lib.hid (below_setRow HB5.out (show w.heap.size ≤ w1.heap.size from hl1) (cv C5 v5))
  clear hb5 hc5 c0 c1 c2 c3
  generalize hW6 : w5.setRow w1.heap.size (cv C5 v5) = W6 at *
  have HW6 := Lib.hid hW6
  clear hW6
  obtain ⟨c0, c1, c2, c3⟩ := cvCells _ _ _ _ _ _ Q6.out
  have HAC := Lib.hid (acc_p (i := 0) HC5.out HOK3.out (by omega) HR3.out)
  go_wp2_with (with_reducible (show wpList _ _ _ (⟨none, .store 25 (.tmp 1) (.tmp 27), _, _, _, _⟩ :: _) _ _); refine wpList_store_row (o := ⟨none, .store 25 (.tmp 1) (.tmp 27), _, _, _, _⟩) rfl 25 (.tmp 1) (.tmp 27) rfl w1.heap.size (cv C5 v5) rfl rfl 25 (cv C v2) Q5.out (info25 _ _) rfl (cv_one _ _) ?_; rw [HW6.out])
  refine HAC.out.mono ?_
  rintro e w7 ⟨rfl, hb7⟩
  rw [HAT.out]
  have HB7 := Lib.hid (HB6.out.trans (hb7.mono HB6.out.size))
  clear hb7
  go_wp2_with fail
  go_ret
  exact ⟨rfl, HB7.out⟩

end Go.Proofs.Ytamcjhibdcbdnaa.Cl
