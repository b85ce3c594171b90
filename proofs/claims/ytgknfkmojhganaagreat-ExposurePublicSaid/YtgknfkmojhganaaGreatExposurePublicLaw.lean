/-
  The Go function leakresponse/leakresponselaw30.ExposurePublic returns true for every list of numbers, and leaves what was there as it was; no conditions. If everybody could read, all readers have an exposure of at most this time, and the first time is the least of all.
-/
import Derived.Test.YtgknfkmojhganaaGreatExAll
import Derived.Test.YtgknfkmojhganaaGreatRows
import Derived.Test.YtgknfkmojhganaaGreatExW
import Derived.Test.YtgknfkmojhganaaGreatExXY
import Derived.BigQuiet
import Derived.WalkKit
import Derived.ProofKit
import Derived.OpenShut
import Derived.ShutString
import Derived.ChangeOld
import Derived.Below
import Derived.StillTailTactics
import Derived.Deep.CutBlock
namespace Go.Proofs.YtgknfkmojhganaaGreat.exposurePublic
open Go.ChangeShapes Go.WideShapes Go.ChangeAt Go.RowKit
open Go.ChangeMaps (open_string shut_string)
open Go.Proofs.YtgknfkmojhganaaGreat.Tp
open Go.Proofs.YtgknfkmojhganaaGreat.Di
set_option linter.unusedVariables false
set_option linter.unusedSimpArgs false

set_option maxRecDepth 100000 in
set_option maxHeartbeats 16000000 in
theorem walk (a0 : Option Addr) (len0 cap0 : Nat) (z0 : List Int) (w : World) (w0 : IsRow .i64 w a0 len0 cap0 z0) :
    Calls Tryz.prog 5 #[.slice a0 len0 cap0] w fun e w' => e = .returned (.bool true) ∧ Below w.heap.size w w' := by
  have hm := w0.at_.1
  unfold maxLen at hm
  have HTP := Lib.hid (tape_new w0)
  have HBX := Lib.hid (box_below w (.cells #[.slice a0 len0 cap0, .int .i64 0] 34))
  clear w0
  by_cases hlen : 400 < len0
  · have hl0 : (400 : Int) < (len0 : Int) := by omega
    go_enter Tryz.func5, Tryz.ntmps5
    go_wp2_with (go_at_call 26; refine (xawake_any _).mono ?_; rintro e w1 ⟨rfl, hb1⟩; have HB1 := Lib.hid hb1; clear hb1)
    go_ret
    exact ⟨rfl, HB1.out⟩
  · have hl0 : (len0 : Int) ≤ (400 : Int) := by omega
    go_enter Tryz.func5, Tryz.ntmps5
    go_wp2_with fail
    refine (directory_any w.heap.size _ HTP.out (by simp)).mono ?_
    rintro e w1 ⟨d, ⟨D1, dc1, D2, dc2⟩, rfl, hmk, hrl, hg1, ht1⟩
    have hb1 : Below w.heap.size w w1 := HBX.out.grown hg1 HBX.out.size (fun k e => by cases e; exact Nat.le_refl _)
    have hs1 := hg1.size
    simp at hs1
    have HQ := Lib.hid (heap_alloc_new w1 (.cells (gd d ⟨D1, dc1, D2, dc2⟩) 25))
    have HDL := Lib.hid ((hrl.base (show w.heap.size + 1 ≤ _ by simp)).below (box_below w1 (.cells (gd d ⟨D1, dc1, D2, dc2⟩) 25)))
    have HB1 := Lib.hid (hb1.trans ((box_below w1 (.cells (gd d ⟨D1, dc1, D2, dc2⟩) 25)).mono hb1.size))
    have HT1 := Lib.hid (tape_new2 ht1 (.cells (gd d ⟨D1, dc1, D2, dc2⟩) 25))
    have HMK := Lib.hid hmk
    have hn1 := hmk.n1
    have hn7 := hmk.n7
    have he11 := hmk.e11
    have lT1 : w.heap.size < w1.heap.size := by omega
    clear hrl hg1 ht1 hb1 hmk
    obtain ⟨g0, g1⟩ := gdCells HQ.out
    have HFD := Lib.hid (show (#[.slice D1 d.k.length dc1, .slice D2 d.e.length dc2] : Array Value) = gd d ⟨D1, dc1, D2, dc2⟩ from rfl)
    go_wp2_with (with_reducible (show wpList _ _ _ (⟨none, .store 25 (.tmp 4) (.tmp 26), _, _, _, _⟩ :: _) _ _); refine wpList_store_row (o := ⟨none, .store 25 (.tmp 4) (.tmp 26), _, _, _, _⟩) rfl 25 (.tmp 4) (.tmp 26) rfl w1.heap.size (gd d ⟨D1, dc1, D2, dc2⟩) rfl rfl 25 zD (heap_alloc_new _ _) (info25 _ _) rfl (gd_one _ _) ?_; rw [new_set])
    have lQ : w1.heap.size < (w1.alloc (.cells (gd d ⟨D1, dc1, D2, dc2⟩) 25)).heap.size := row_lt HQ.out
    generalize w1.alloc (.cells (gd d ⟨D1, dc1, D2, dc2⟩) 25) = WA at *
    generalize w1.heap.size = Q at *
    rw [HFD.out]
    refine (estate_any w.heap.size d ⟨D1, dc1, D2, dc2⟩ WA HT1.out (by omega) hn1 hn7).mono ?_
    rintro e w2 ⟨a, ⟨A, vc⟩, rfl, hme, hel, hg2, ht2⟩
    have hb2 : Below w.heap.size w w2 := HB1.out.grown hg2 HB1.out.size (fun k e => by cases e; exact Nat.le_refl _)
    have hs2 : w.heap.size + 1 ≤ w2.heap.size := by have := hg2.size; omega
    have hq2 := (hg2.block _ lQ (fun e => by injection e; omega)).trans HQ.out
    have hbe := box_below w2 (.cells (ge a ⟨A, vc⟩) 28)
    have HQ2 := Lib.hid ((hbe.block _ (row_lt hq2)).trans hq2)
    have HD2 := Lib.hid ((HDL.out.grown hg2 (fun g e => by cases e; omega)).below hbe)
    have HR := Lib.hid (heap_alloc_new w2 (.cells (ge a ⟨A, vc⟩) 28))
    have HEL := Lib.hid (Row.below (hel.base (show w.heap.size + 1 ≤ _ by omega)) hbe)
    have HB2 := Lib.hid (hb2.trans (hbe.mono hb2.size))
    have HT2 := Lib.hid (tape_new2 ht2 (.cells (ge a ⟨A, vc⟩) 28))
    have HME := Lib.hid hme
    have ha1 := hme.ok.n1
    have ha4 := hme.n4
    have ha15 := hme.m15
    have hRs : Q < w2.heap.size := row_lt hq2
    clear hel hg2 ht2 hb2 hme HB1 HT1 HBX HTP hbe hq2 HQ HDL g0 g1
    obtain ⟨g0, g1⟩ := gdCells HQ2.out
    obtain ⟨c0, c1⟩ := geCells HR.out
    have HFE := Lib.hid (show (#[.int .i64 a.n, .slice A a.e.length vc] : Array Value) = ge a ⟨A, vc⟩ from rfl)
    go_wp2_with (with_reducible (show wpList _ _ _ (⟨none, .store 28 (.tmp 5) (.tmp 29), _, _, _, _⟩ :: _) _ _); refine wpList_store_row (o := ⟨none, .store 28 (.tmp 5) (.tmp 29), _, _, _, _⟩) rfl 28 (.tmp 5) (.tmp 29) rfl w2.heap.size (ge a ⟨A, vc⟩) rfl rfl 28 zE (heap_alloc_new _ _) (infoEs _ _) rfl (ge_one _ _) ?_; rw [new_set])
    have lR : w2.heap.size < (w2.alloc (.cells (ge a ⟨A, vc⟩) 28)).heap.size := row_lt HR.out
    generalize w2.alloc (.cells (ge a ⟨A, vc⟩) 28) = WB at *
    generalize w2.heap.size = R at *
    have lQB : Q < WB.heap.size := row_lt HQ2.out
    have HDO := Lib.hid HMK.out.ok
    have HEO := Lib.hid HME.out.ok
    obtain ⟨n, hn⟩ : ∃ n : Nat, a.n = (n : Int) := ⟨a.n.toNat, by omega⟩
    have HAN := Lib.hid hn
    clear hn
    refine (next_any w.heap.size 3 WB HT2.out (by omega) (by omega)).mono ?_
    rintro e WC ⟨zc, zc0, zc1, rfl, hgc, htc⟩
    obtain ⟨c, rfl⟩ : ∃ z : Nat, zc = z := ⟨zc.toNat, by omega⟩
    have hc3 : c < 3 := by omega
    have hqd := (hgc.block _ lQB (fun e => by injection e; omega)).trans HQ2.out
    have hqe := (hgc.block _ lR (fun e => by injection e; omega)).trans HR.out
    have hdd := HD2.out.grown hgc (fun g e => by cases e; omega)
    have hee := Row.grown HEL.out hgc (fun g e => by cases e; omega)
    have hbb := HB2.out.grown hgc HB2.out.size (fun k e => by cases e; exact Nat.le_refl _)
    have HKP := Lib.hid (fun w' (hw : Below WC.heap.size WC w') => (⟨gdCells ((hw.block _ (row_lt hqd)).trans hqd), geCells ((hw.block _ (row_lt hqe)).trans hqe)⟩ : (w'.cell? ⟨Q, 0, none⟩ = some (.slice D1 d.k.length dc1) ∧ w'.cell? ⟨Q, 1, none⟩ = some (.slice D2 d.e.length dc2)) ∧ (w'.cell? ⟨R, 0, none⟩ = some (.int .i64 a.n) ∧ w'.cell? ⟨R, 1, none⟩ = some (.slice A a.e.length vc))))
    have HDF := Lib.hid (fun wr (h : Below WC.heap.size WC wr) => (hdd.below h).base (Nat.zero_le _))
    have HEF := Lib.hid (fun wr (h : Below WC.heap.size WC wr) => Row.base (B' := 0) (Row.below hee h) (Nat.zero_le _))
    have HBF := Lib.hid (fun wr (h : Below WC.heap.size WC wr) => hbb.trans (h.mono hbb.size))
    have hn24 := hn7
    clear zc0 zc1 hgc htc g0 g1 c0 c1 HQ2 HR HD2 HEL HB2 HT2 lQB lR lQ hqd hqe hdd hee hbb
    obtain ⟨⟨g0, g1⟩, ⟨c0, c1⟩⟩ := HKP.out _ (Below.refl _ _)
    have hlen := exL_len d a n (c : Int) (d.k.length + 1)
    have hall := fun w' (hw : Below WC.heap.size WC w') => xall_any d ⟨D1, dc1, D2, dc2⟩ a ⟨A, vc⟩ n (c : Int) w' (HDF.out _ hw) HDO.out (HEF.out _ hw) HEO.out HAN.out ⟨by omega, by omega⟩
    unfold AlPost at hall
    have hfir := fun w' (hw : Below WC.heap.size WC w') => xfirst_any d ⟨D1, dc1, D2, dc2⟩ a ⟨A, vc⟩ n (c : Int) w' (HDF.out _ hw) HDO.out (HEF.out _ hw) HEO.out HAN.out ⟨by omega, by omega⟩
    have HPI := Lib.hid (fun F hF h0 h1 => pub_is (d := d) (a := a) (n := n) (c := (c : Int)) (F := F) hF h0 h1)
    obtain ⟨F, hFF⟩ : ∃ F, exL d a n (c : Int) (d.k.length + 1) = F := ⟨_, rfl⟩
    have HPU := Lib.hid (HPI.out F hFF)
    rw [hFF] at hall hfir hlen
    obtain ⟨f, hf⟩ : ∃ f, F.length = f := ⟨_, rfl⟩
    have HF := Lib.hid hf
    rw [hf] at hall hlen
    have HALL := Lib.hid hall
    have HFIR := Lib.hid hfir
    clear hall hfir hFF hf HPI
    go_upto_region 11 with (first
      | (go_at_call 27; rw [HFD.out, HFE.out]; refine (HALL.out _ (Below.refl _ _)).mono ?_; rintro e w1 ⟨X, xc, rfl, hown, hb1⟩; have B1 := Lib.hid hb1; have RX := Lib.hid ((row_of_own hown).base (Nat.zero_le _)); have hcap := own_capX hown; clear hb1 hown g0 g1 c0 c1; obtain ⟨⟨g0, g1⟩, ⟨c0, c1⟩⟩ := HKP.out _ B1.out)
      | (go_at_call 32; rw [HFD.out, HFE.out]; refine (HFIR.out _ B1.out).mono ?_; rintro e w2 ⟨sv, bv, rfl, hfi, hb2⟩; have B2 := Lib.hid (B1.out.trans (hb2.mono B1.out.size)); have RX2 := Lib.hid (RX.out.below hb2); have HFI := Lib.hid hfi; clear hb2 hfi g0 g1 c0 c1))
    have hbv : bv = decide (0 < f) := by
      by_cases h : f = 0
      · rw [(HFI.out.1 (by rw [HF.out]; exact h)).1, h]; rfl
      · rw [(HFI.out.2 (by rw [HF.out]; omega)).1, decide_eq_true (by omega)]
    have dbv : decide ((0 : Int) < (f : Int)) = decide (0 < f) := by by_cases h : 0 < f <;> simp [h]
    rw [hbv]
    clear hbv
    generalize hzb : decide (0 < f) = zb at *
    have HZB := Lib.hid hzb
    have e0 : (zb != zb) = false := by simp
    have HMIN := Lib.hid (fun j (hj : j < f) => (show (xg F j).2 < sv.toNat → False from fun h => by
      obtain ⟨-, k, hk, hs, hm⟩ := HFI.out.2 (by rw [HF.out]; omega)
      have := hm j (by rw [HF.out]; exact hj)
      omega))
    have hsv0 : 0 ≤ sv := by
      by_cases h : f = 0
      · rw [(HFI.out.1 (by rw [HF.out]; exact h)).2]; exact Int.le_refl _
      · obtain ⟨-, k, hk, hs, hm⟩ := HFI.out.2 (by rw [HF.out]; omega)
        omega
    obtain ⟨sn, rfl⟩ : ∃ sn : Nat, sv = sn := ⟨sv.toNat, by omega⟩
    obtain ⟨fd, hfd⟩ : ∃ fd : Nat → Bool, fd = fun j => anyB (fun i => (xg F i).2 == sn) j := ⟨_, rfl⟩
    have HF0 := Lib.hid (show fd 0 = false by rw [hfd]; rfl)
    have HFS := Lib.hid (fun j => (show fd (j + 1) = (fd j || ((xg F j).2 == sn)) by rw [hfd]; rfl))
    have HFE2 := Lib.hid (show 0 < f → fd f = true from fun h => by
      obtain ⟨-, k, hk, hs, hm⟩ := HFI.out.2 (by rw [HF.out]; exact h)
      rw [hfd]
      exact (any_iff _ _).2 ⟨k, by rw [← HF.out]; exact hk, by rw [beq_iff_eq]; omega⟩)
    clear hfd hsv0
    have l10 : f ≤ 1000 := by omega
    go_upto_if 52 with fail
    clear hzb dbv
    go_wp2_with fail
    go_loopw [11, 55] (fun fv ii wx => ∃ j : Nat, j ≤ f ∧ fv = .bool (fd j) ∧ ii = .int .i64 (j : Int) ∧ Below w2.heap.size w2 wx) (fun _ ii _ => f - (intOf ii).toNat)
    case atStart => exact ⟨0, by omega, by rw [HF0.out], rfl, Below.refl _ _⟩
    case round =>
      obtain ⟨j, hj, rfl, rfl, hbl⟩ := hrel
      rename World => wx
      have HBL := Lib.hid hbl
      clear hbl
      by_cases hlt : j < f
      · have hfs := HFS.out j
        have hmn := HMIN.out j hlt
        obtain ⟨b, off, hA, y0, y1⟩ := (RX2.out.below HBL.out).xp hlt
        subst hA
        generalize fd j = fj at *
        generalize xg F j = x at *
        obtain ⟨xp, xt⟩ := x
        simp only at y0 y1 hfs hmn
        have hmn2 : ¬ xt < sn := fun h => hmn (by omega)
        have hbx := box_below wx (.cells #[.int .i64 xp, .int .i64 (xt : Int)] 70)
        have XN := heap_alloc_new wx (.cells #[.int .i64 xp, .int .i64 (xt : Int)] 70)
        obtain ⟨n0, n1⟩ := xc2 XN
        have HBX := Lib.hid (HBL.out.trans (hbx.mono HBL.out.size))
        have i0 : (0 : Int) ≤ (j : Int) := by omega
        have i1 : (j : Int) < (f : Int) := by omega
        have d1 : decide ((xt : Int) < (sn : Int)) = false := decide_eq_false (by omega)
        clear hbx XN hmn
        obtain ⟨q, hq⟩ : ∃ q, ((xt : Int) == (sn : Int)) = q := ⟨_, rfl⟩
        have HN := Lib.hid (show fd (j + 1) = (fj || q) by rw [hfs, ← hq]; congr 1; by_cases h : xt = sn; (rw [h]; simp); (rw [beq_eq_false_iff_ne.2 h, beq_eq_false_iff_ne.2 (by omega)]))
        clear hfs
        cases fj with
        | true =>
          go_wp2_with fail
          exact ⟨⟨j + 1, by omega, by rw [HN.out]; rfl, by go_num, HBX.out⟩, by simp [intOf]; omega⟩
        | false =>
          cases q with
          | true =>
            go_wp2_with fail
            exact ⟨⟨j + 1, by omega, by rw [HN.out]; rfl, by go_num, HBX.out⟩, by simp [intOf]; omega⟩
          | false =>
            go_wp2_with fail
            exact ⟨⟨j + 1, by omega, by rw [HN.out]; rfl, by go_num, HBX.out⟩, by simp [intOf]; omega⟩
      · obtain rfl : f = j := by omega
        have BX := Lib.hid (B2.out.trans (HBL.out.mono B2.out.size))
        have RXX := Lib.hid (RX2.out.below HBL.out)
        have hzb := HZB.out
        by_cases hf0 : f = 0
        · have hz : zb = false := by rw [← hzb, hf0]; rfl
          have e1 : ((f : Int) == 0) = true := beq_iff_eq.2 (by omega)
          rw [hz]
          clear hzb hz hf0
          generalize fd f = ff at *
          go_wp2_with (go_at_call 26; refine (xawake_any _).mono ?_; rintro e w9 ⟨rfl, hb9⟩; have HB9 := Lib.hid ((HBF.out _ BX.out).trans (hb9.mono (HBF.out _ BX.out).size)); clear hb9)
          go_ret
          exact ⟨by first | rfl | simp, HB9.out⟩
        · have hz : zb = true := by rw [← hzb]; exact decide_eq_true (by omega)
          have hff := HFE2.out (by omega)
          have e1 : ((f : Int) == 0) = false := beq_eq_false_iff_ne.2 (by omega)
          obtain ⟨b, off, hA, y0, y1⟩ := RXX.out.xp (i := 0) (by omega)
          subst hA
          rw [Nat.zero_mul, Nat.add_zero] at y0 y1
          have i0 : (0 : Int) < (f : Int) := by omega
          have HPF := Lib.hid (fun h => HPU.out (by rw [HF.out]; omega) h)
          have HF0' := Lib.hid (show 0 < f by omega)
          rw [hz, hff]
          clear hzb hz hf0 hff
          obtain ⟨x0, hx0⟩ : ∃ x0, xg F 0 = x0 := ⟨_, rfl⟩
          rw [hx0] at y0 y1 HPF
          obtain ⟨xp, xt⟩ := x0
          simp only at y0 y1 HPF
          by_cases hxp : xp = -1
          · subst hxp
            obtain ⟨hl, hle⟩ := HPF.out rfl
            have HL := Lib.hid hl
            have HLE := Lib.hid hle
            have HX0 := Lib.hid hx0
            clear hl hle hx0
            obtain ⟨g, hg⟩ : ∃ g, f - 1 = g := ⟨_, rfl⟩
            have hg2 : f = g + 1 := by omega
            have HG2 := Lib.hid hg2
            clear hg2
            have HXW := Lib.hid (fun w' (hb : Below wx.heap.size wx w') j (hj : j < f) => (RXX.out.below hb).xp hj)
            by_cases hx1 : xc = 1
            · have hg0 : g = 0 := by have := HG2.out; omega
              have HG0 := Lib.hid hg0
              clear hg0
              go_wp2_with fail
              go_loopw [14, 90] (fun nv ii wy => ∃ j : Nat, j ≤ g ∧ nv = .int .i64 (j : Int) ∧ ii = .int .i64 (j : Int) ∧ Below wx.heap.size wx wy) (fun _ ii _ => g - (intOf ii).toNat)
              case atStart => exact ⟨0, by omega, rfl, rfl, Below.refl _ _⟩
              case round =>
                obtain ⟨j, hj, rfl, rfl, hbl⟩ := hrel
                rename World => wy
                have HBY := Lib.hid hbl
                clear hbl
                by_cases hlt : j < g
                · have := HG0.out
                  omega
                · obtain rfl : g = j := by omega
                  have BY := Lib.hid (BX.out.trans (HBY.out.mono BX.out.size))
                  obtain ⟨⟨g0, g1⟩, -⟩ := HKP.out _ BY.out
                  have HRB := Lib.hid (fun p w' (hb : Below WC.heap.size WC w') => reader_any 0 d ⟨D1, dc1, D2, dc2⟩ p w' (HDF.out _ hb) (by omega))
                  have HC0 := Lib.hid (show cnt (rB d) 0 = 0 from rfl)
                  have HCT := Lib.hid (fun k (h : rB d k = true) => cnt_tt h)
                  have HCF := Lib.hid (fun k (h : rB d k = false) => cnt_ff h)
                  have HCL := Lib.hid (cnt_le (rB d))
                  generalize cnt (rB d) = ct at *
                  clear y0 y1
                  go_wp2_with fail
                  clear g0 g1
                  go_loopw [14, 107] (fun nv pp wz => ∃ p : Nat, p ≤ d.k.length ∧ nv = .int .i64 ((g : Int) - (ct p : Int)) ∧ pp = .int .i64 (p : Int) ∧ Below wy.heap.size wy wz) (fun _ pp _ => d.k.length - (intOf pp).toNat)
                  case atStart => exact ⟨0, by omega, by rw [HC0.out]; simp, rfl, Below.refl _ _⟩
                  case round =>
                    obtain ⟨p, hp, rfl, rfl, hbl⟩ := hrel
                    rename World => wz
                    have HBZ := Lib.hid hbl
                    have BZ := Lib.hid (BY.out.trans (hbl.mono BY.out.size))
                    obtain ⟨⟨g0, g1⟩, -⟩ := HKP.out _ BZ.out
                    have hcl := HCL.out p
                    clear hbl
                    by_cases hlp : p < d.k.length
                    · have p0 : (0 : Int) ≤ (p : Int) := by omega
                      have p1 : (p : Int) < (d.k.length : Int) := by omega
                      have HRP := Lib.hid (HRB.out p wz BZ.out)
                      have hct := HCT.out p
                      have hcf := HCF.out p
                      cases hrb : rB d p with
                      | true =>
                        rw [hrb] at HRP
                        have HCN := Lib.hid (hct hrb)
                        have hwn : IntKind.i64.wrap ((g : Int) - (ct p : Int) - 1) = (g : Int) - (ct p : Int) - 1 := IntWalk.i64_in _ (by omega)
                        clear hct hcf hrb
                        go_wp2_with (go_at_call 33; rw [HFD.out]; refine HRP.out.mono ?_; rintro e wa ⟨rfl, hba⟩; have BA := Lib.hid (HBZ.out.trans (hba.mono HBZ.out.size)); clear hba g0 g1)
                        exact ⟨⟨p + 1, by omega, congrArg (Value.int .i64) (by rw [HCN.out]; omega), by go_num, BA.out⟩, by simp [intOf]; omega⟩
                      | false =>
                        rw [hrb] at HRP
                        have HCN := Lib.hid (hcf hrb)
                        clear hct hcf hrb
                        go_wp2_with (go_at_call 33; rw [HFD.out]; refine HRP.out.mono ?_; rintro e wa ⟨rfl, hba⟩; have BA := Lib.hid (HBZ.out.trans (hba.mono HBZ.out.size)); clear hba g0 g1)
                        exact ⟨⟨p + 1, by omega, congrArg (Value.int .i64) (by rw [HCN.out]), by go_num, BA.out⟩, by simp [intOf]; omega⟩
                    · obtain rfl : d.k.length = p := by omega
                      have e9 : ((g : Int) - (ct d.k.length : Int) == 0) = true := beq_iff_eq.2 (by have := HL.out; have := HG2.out; have := HF.out; omega)
                      go_wp2_with (go_at_call 26; refine (xawake_any _).mono ?_; rintro e w9 ⟨rfl, hb9⟩; have HB9 := Lib.hid ((HBF.out _ BZ.out).trans (hb9.mono (HBF.out _ BZ.out).size)); clear hb9)
                      go_ret
                      exact ⟨by first | rfl | simp, HB9.out⟩
            · have hv1 : ¬ xc = 1 := hx1
              go_wp2_with fail
              go_loopw [14, 90] (fun nv ii wy => ∃ j : Nat, j ≤ g ∧ nv = .int .i64 (j : Int) ∧ ii = .int .i64 (j : Int) ∧ Below wx.heap.size wx wy) (fun _ ii _ => g - (intOf ii).toNat)
              case atStart => exact ⟨0, by omega, rfl, rfl, Below.refl _ _⟩
              case round =>
                obtain ⟨j, hj, rfl, rfl, hbl⟩ := hrel
                rename World => wy
                have HBY := Lib.hid hbl
                clear hbl
                by_cases hlt : j < g
                · have hle := HLE.out (j + 1) (by have := HF.out; have := HG2.out; omega)
                  obtain ⟨b2, off2, e2, q0, q1⟩ := HXW.out wy HBY.out (j + 1) (by have := HG2.out; omega)
                  cases e2
                  rw [show off + (j + 1) * 2 = off + 2 + j * 2 by omega] at q0 q1
                  generalize xg F (j + 1) = x at *
                  obtain ⟨qp, qt⟩ := x
                  simp only at q0 q1 hle
                  have hle2 : qt ≤ xt := by simpa using hle
                  have hbx := box_below wy (.cells #[.int .i64 qp, .int .i64 (qt : Int)] 70)
                  have XN := heap_alloc_new wy (.cells #[.int .i64 qp, .int .i64 (qt : Int)] 70)
                  obtain ⟨n0, n1⟩ := xc2 XN
                  have HBX := Lib.hid (HBY.out.trans (hbx.mono HBY.out.size))
                  obtain ⟨b3, off3, e3, z0, z1⟩ := HXW.out _ HBX.out 0 (by have := HG2.out; omega)
                  cases e3
                  rw [Nat.zero_mul, Nat.add_zero, HX0.out] at z0 z1
                  simp only at z0 z1
                  have i0 : (0 : Int) ≤ (j : Int) := by omega
                  have i1 : (j : Int) < (g : Int) := by omega
                  have i2 : (0 : Int) < (f : Int) := by have := HG2.out; omega
                  have d1 : decide ((xt : Int) < (qt : Int)) = false := decide_eq_false (by omega)
                  have d1n : ¬ xt < qt := by omega
                  have d1m : ¬ (xt : Int) < (qt : Int) := by omega
                  clear hbx XN hle hle2
                  go_wp2_with fail
                  go_quiet (fail)
                  go_wp2_with fail
                  exact ⟨⟨j + 1, by omega, by go_num, by go_num, by first | exact HBX.out | exact below_dn3 HBX.out _⟩, by simp [intOf]; omega⟩
                · obtain rfl : g = j := by omega
                  have BY := Lib.hid (BX.out.trans (HBY.out.mono BX.out.size))
                  obtain ⟨⟨g0, g1⟩, -⟩ := HKP.out _ BY.out
                  have HRB := Lib.hid (fun p w' (hb : Below WC.heap.size WC w') => reader_any 0 d ⟨D1, dc1, D2, dc2⟩ p w' (HDF.out _ hb) (by omega))
                  have HC0 := Lib.hid (show cnt (rB d) 0 = 0 from rfl)
                  have HCT := Lib.hid (fun k (h : rB d k = true) => cnt_tt h)
                  have HCF := Lib.hid (fun k (h : rB d k = false) => cnt_ff h)
                  have HCL := Lib.hid (cnt_le (rB d))
                  generalize cnt (rB d) = ct at *
                  clear y0 y1
                  go_wp2_with fail
                  clear g0 g1
                  go_loopw [14, 107] (fun nv pp wz => ∃ p : Nat, p ≤ d.k.length ∧ nv = .int .i64 ((g : Int) - (ct p : Int)) ∧ pp = .int .i64 (p : Int) ∧ Below wy.heap.size wy wz) (fun _ pp _ => d.k.length - (intOf pp).toNat)
                  case atStart => exact ⟨0, by omega, by rw [HC0.out]; simp, rfl, Below.refl _ _⟩
                  case round =>
                    obtain ⟨p, hp, rfl, rfl, hbl⟩ := hrel
                    rename World => wz
                    have HBZ := Lib.hid hbl
                    have BZ := Lib.hid (BY.out.trans (hbl.mono BY.out.size))
                    obtain ⟨⟨g0, g1⟩, -⟩ := HKP.out _ BZ.out
                    have hcl := HCL.out p
                    clear hbl
                    by_cases hlp : p < d.k.length
                    · have p0 : (0 : Int) ≤ (p : Int) := by omega
                      have p1 : (p : Int) < (d.k.length : Int) := by omega
                      have HRP := Lib.hid (HRB.out p wz BZ.out)
                      have hct := HCT.out p
                      have hcf := HCF.out p
                      cases hrb : rB d p with
                      | true =>
                        rw [hrb] at HRP
                        have HCN := Lib.hid (hct hrb)
                        have hwn : IntKind.i64.wrap ((g : Int) - (ct p : Int) - 1) = (g : Int) - (ct p : Int) - 1 := IntWalk.i64_in _ (by omega)
                        clear hct hcf hrb
                        go_wp2_with (go_at_call 33; rw [HFD.out]; refine HRP.out.mono ?_; rintro e wa ⟨rfl, hba⟩; have BA := Lib.hid (HBZ.out.trans (hba.mono HBZ.out.size)); clear hba g0 g1)
                        exact ⟨⟨p + 1, by omega, congrArg (Value.int .i64) (by rw [HCN.out]; omega), by go_num, BA.out⟩, by simp [intOf]; omega⟩
                      | false =>
                        rw [hrb] at HRP
                        have HCN := Lib.hid (hcf hrb)
                        clear hct hcf hrb
                        go_wp2_with (go_at_call 33; rw [HFD.out]; refine HRP.out.mono ?_; rintro e wa ⟨rfl, hba⟩; have BA := Lib.hid (HBZ.out.trans (hba.mono HBZ.out.size)); clear hba g0 g1)
                        exact ⟨⟨p + 1, by omega, congrArg (Value.int .i64) (by rw [HCN.out]), by go_num, BA.out⟩, by simp [intOf]; omega⟩
                    · obtain rfl : d.k.length = p := by omega
                      have e9 : ((g : Int) - (ct d.k.length : Int) == 0) = true := beq_iff_eq.2 (by have := HL.out; have := HG2.out; have := HF.out; omega)
                      go_wp2_with (go_at_call 26; refine (xawake_any _).mono ?_; rintro e w9 ⟨rfl, hb9⟩; have HB9 := Lib.hid ((HBF.out _ BZ.out).trans (hb9.mono (HBF.out _ BZ.out).size)); clear hb9)
                      go_ret
                      exact ⟨by first | rfl | simp, HB9.out⟩
          · have e2 : (xp != -1) = true := bne_iff_ne.2 hxp
            clear hxp hx0
            go_wp2_with (go_at_call 26; refine (xawake_any _).mono ?_; rintro e w9 ⟨rfl, hb9⟩; have HB9 := Lib.hid ((HBF.out _ BX.out).trans (hb9.mono (HBF.out _ BX.out).size)); clear hb9)
            go_ret
            exact ⟨by first | rfl | simp, HB9.out⟩

/-! ### THE ROW's STEP: WRITTEN OUT: LEAVE IT -/
set_option maxRecDepth 100000 in
theorem lifted (os : Os) (started : os.Started) (H : Type) (enc : TypeId × Value → H) :
    ReturnsInHanded {} Tryz.checked os 5 .any (Rows.exposurePublicSpec.pre6 enc Tryz.prog Tryz.f5 Rows.exposurePublicRow.domain false) (Rows.exposurePublicSpec.post enc Tryz.prog Tryz.f5 false true false false) := by
  refine returnsInHanded_of_change (C := Tryz.checked) own started (by kernel_rfl) Tryz.func5
    (ChangeSpec.witness6 (enc := enc) (C := Tryz.checked) false ⟨#[], #[.slice none 0 0], []⟩ 8 (by kernel_rfl) (by kernel_rfl) (by kernel_rfl) (by kernel_rfl)) ?_
  intro W base args ds gs before hval0 hW hcnd _
  have hval : ∀ (j : Nat) t v, Tryz.f5.params[j]? = some t → args[j]? = some v → Value.okWide Tryz.prog W .any base t v := hval0
  have hW' := hW
  obtain ⟨p, q, hA0, hV, rfl, hfz, hnd⟩ := hW
  have hA : DataW.TrodAll enc Tryz.prog W 0 (fun _ => true) true Tryz.f5.params.toList args.toList ds p := hA0
  rw [Tryz.params5] at hA hval
  obtain ⟨v0, vs0, d0, ds0, p0, q0, hargs, rfl, rfl, h0, r0⟩ := trodAll_cons hA
  obtain ⟨rfl, rfl, rfl⟩ := trodAll_nil r0
  obtain rfl : args = #[v0] := by cases args; simp_all
  obtain ⟨rfl, rfl⟩ := trodVars_none hV
  obtain ⟨a0, len0, cap0, rfl⟩ := okWide_slice Tryz.underlying22 (hval 0 22 v0 rfl rfl)
  have k0 := h0
  have lt0 : ∀ x ∈ p0, x.block < W.heap.size := by obtain ⟨m, hm⟩ := k0; exact DataW.trod_lt m _ _ _ hm
  obtain ⟨z0, w0⟩ : ∃ zs, IsRow .i64 W a0 len0 cap0 zs := by
    obtain ⟨fuel, hf⟩ := h0
    rcases open_ints Tryz.underlying22 Tryz.underlying3 (by kernel_rfl) hf with ⟨hcs, _⟩ | ⟨x, l, c, zs, hcs, _, hl, hm, hz, _, hcell, hwz⟩
    · simp [Value.cells] at hcs
      obtain ⟨rfl, rfl, rfl⟩ := hcs
      exact ⟨[], .inl ⟨rfl, rfl, rfl, rfl⟩⟩
    · simp [Value.cells] at hcs
      obtain ⟨rfl, rfl, rfl⟩ := hcs
      exact ⟨zs, .inr ⟨_, rfl, hl, hm, by simpa using hz, hcell, hwz⟩⟩
  clear hA0 hval0
  refine (walk a0 len0 cap0 z0 W w0).mono fun e W' ⟨he, bel⟩ => ?_
  subst he
  exact ⟨_, rfl, _, _, _, [], _, [], hW', trodAll_mk1 (shut_bool Tryz.underlying4 _), (trodAll_cons_mk (Below.trod laidOut (by kernel_rfl) (of_decide_eq_true (by kernel_rfl)) k0 bel lt0) trodAll_mk0), rfl, bel.frame _, fun h => by cases h⟩

theorem over : Rows.exposurePublicRow.holds Tryz.pinned (OpenSpec.ofChange Rows.exposurePublicSpec) :=
  OpenClaim.holds_of_wide 5 Tryz.f5 rfl rfl rfl rfl rfl rfl rfl ⟨rfl, rfl, rfl, rfl, rfl⟩ rfl rfl rfl rfl rfl (by kernel_rfl) Tryz.func5 (by kernel_rfl)
    (of_decide_eq_true (by kernel_rfl)) (by unfold Func.isWrapper; first | (rw [if_pos (by decide +kernel)]; kernel_rfl) | (rw [if_neg (by decide +kernel)]; exact ⟨rfl, rfl⟩))
    (fun os started H enc _ => lifted os started H enc)

/-- ████ THE STATEMENT ████ -/
theorem proved : Rows.ExposurePublicSaid := over
#print axioms proved
end Go.Proofs.YtgknfkmojhganaaGreat.exposurePublic
