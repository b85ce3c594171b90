/-
  The Go function leakresponse/leakresponselaw28.ReadersProofs returns true for every list of numbers, and leaves what was there as it was; no conditions. A reader may read exactly if there is a reading that proves it, and may not exactly if what it reaches refutes it.
-/
import Derived.Test.YtgknfkmojhganaaRdAll
import Derived.Test.YtgknfkmojhganaaRows
import Derived.Test.YtgknfkmojhganaaRdTwo
import Derived.Test.YtgknfkmojhganaaRdM
import Derived.BigQuiet
import Derived.Deep.RegionHeld3
import Derived.WalkKit
import Derived.ProofKit
import Derived.OpenShut
import Derived.ShutString
import Derived.ChangeOld
import Derived.Below
import Derived.StillTailTactics
import Derived.Deep.CutBlock
namespace Go.Proofs.Ytgknfkmojhganaa.readersProofs
open Go.ChangeShapes Go.WideShapes Go.ChangeAt Go.RowKit
open Go.ChangeMaps (open_string shut_string)
open Go.Proofs.Ytgknfkmojhganaa.Tp
open Go.Proofs.Ytgknfkmojhganaa.Di
set_option linter.unusedVariables false

set_option maxRecDepth 100000 in
set_option maxHeartbeats 16000000 in
theorem walk (a0 : Option Addr) (len0 cap0 : Nat) (z0 : List Int) (w : World) (w0 : IsRow .i64 w a0 len0 cap0 z0) :
    Calls Try.prog 3 #[.slice a0 len0 cap0] w fun e w' => e = .returned (.bool true) ∧ Below w.heap.size w w' := by
  have hm := w0.at_.1
  unfold maxLen at hm
  have HTP := Lib.hid (tape_new w0)
  have HBX := Lib.hid (box_below w (.cells #[.slice a0 len0 cap0, .int .i64 0] 26))
  clear w0
  by_cases hlen : 400 < len0
  · have hl0 : (400 : Int) < (len0 : Int) := by omega
    go_enter Try.func3, Try.ntmps3
    go_wp2_with (go_at_call 8; refine (awake_any _).mono ?_; rintro e w1 ⟨rfl, hb1⟩; have HB1 := Lib.hid hb1; clear hb1)
    go_ret
    exact ⟨rfl, HB1.out⟩
  · have hl0 : (len0 : Int) ≤ (400 : Int) := by omega
    go_enter Try.func3, Try.ntmps3
    go_wp2_with fail
    refine (directory_any w.heap.size _ HTP.out (by simp)).mono ?_
    rintro e w1 ⟨d, ⟨D1, dc1, D2, dc2⟩, rfl, hmk, hrl, hg1, ht1⟩
    have hb1 : Below w.heap.size w w1 := HBX.out.grown hg1 HBX.out.size (fun k e => by cases e; exact Nat.le_refl _)
    have hs1 := hg1.size
    simp at hs1
    have HQ := Lib.hid (heap_alloc_new w1 (.cells (gd d ⟨D1, dc1, D2, dc2⟩) 29))
    have HDL := Lib.hid ((hrl.base (show w.heap.size + 1 ≤ _ by simp)).below (box_below w1 (.cells (gd d ⟨D1, dc1, D2, dc2⟩) 29)))
    have HB1 := Lib.hid (hb1.trans ((box_below w1 (.cells (gd d ⟨D1, dc1, D2, dc2⟩) 29)).mono hb1.size))
    have HT1 := Lib.hid (tape_new2 ht1 (.cells (gd d ⟨D1, dc1, D2, dc2⟩) 29))
    have HMK := Lib.hid hmk
    have hn1 := hmk.n1
    have hn7 := hmk.n7
    have he11 := hmk.e11
    have lT1 : w.heap.size < w1.heap.size := by omega
    clear hrl hg1 ht1 hb1 hmk
    obtain ⟨g0, g1⟩ := gdCells HQ.out
    have HFD := Lib.hid (show (#[.slice D1 d.k.length dc1, .slice D2 d.e.length dc2] : Array Value) = gd d ⟨D1, dc1, D2, dc2⟩ from rfl)
    go_wp2_with (with_reducible (show wpList _ _ _ (⟨none, .store 29 (.tmp 4) (.tmp 20), _, _, _, _⟩ :: _) _ _); refine wpList_store_row (o := ⟨none, .store 29 (.tmp 4) (.tmp 20), _, _, _, _⟩) rfl 29 (.tmp 4) (.tmp 20) rfl w1.heap.size (gd d ⟨D1, dc1, D2, dc2⟩) rfl rfl 29 zD (heap_alloc_new _ _) (info25 _ _) rfl (gd_one _ _) ?_; rw [new_set])
    have lQ : w1.heap.size < (w1.alloc (.cells (gd d ⟨D1, dc1, D2, dc2⟩) 29)).heap.size := row_lt HQ.out
    generalize w1.alloc (.cells (gd d ⟨D1, dc1, D2, dc2⟩) 29) = WA at *
    generalize w1.heap.size = Q at *
    rw [HFD.out]
    refine (estate_cap w.heap.size d ⟨D1, dc1, D2, dc2⟩ WA HT1.out (by omega) hn1 hn7).mono ?_
    rintro e w2 ⟨a, ⟨A, vc⟩, rfl, hme, hel, hg2, ht2, hcap⟩
    have hb2 : Below w.heap.size w w2 := HB1.out.grown hg2 HB1.out.size (fun k e => by cases e; exact Nat.le_refl _)
    have hs2 : w.heap.size + 1 ≤ w2.heap.size := by have := hg2.size; omega
    have hq2 := (hg2.block _ lQ (fun e => by injection e; omega)).trans HQ.out
    have hbe := box_below w2 (.cells (ge a ⟨A, vc⟩) 33)
    have HQ2 := Lib.hid ((hbe.block _ (row_lt hq2)).trans hq2)
    have HD2 := Lib.hid ((HDL.out.grown hg2 (fun g e => by cases e; omega)).below hbe)
    have HR := Lib.hid (heap_alloc_new w2 (.cells (ge a ⟨A, vc⟩) 33))
    have HEL := Lib.hid (Row.below (hel.base (show w.heap.size + 1 ≤ _ by omega)) hbe)
    have HB2 := Lib.hid (hb2.trans (hbe.mono hb2.size))
    have HT2 := Lib.hid (tape_new2 ht2 (.cells (ge a ⟨A, vc⟩) 33))
    have HME := Lib.hid hme
    have ha1 := hme.ok.n1
    have ha4 := hme.n4
    have ha15 := hme.m15
    have hRs : Q < w2.heap.size := row_lt hq2
    clear hel hg2 ht2 hb2 hme HB1 HT1 HBX HTP hbe hq2 HQ HDL g0 g1
    obtain ⟨g0, g1⟩ := gdCells HQ2.out
    obtain ⟨c0, c1⟩ := geCells HR.out
    have HFE := Lib.hid (show (#[.int .i64 a.n, .slice A a.e.length vc] : Array Value) = ge a ⟨A, vc⟩ from rfl)
    go_wp2_with (with_reducible (show wpList _ _ _ (⟨none, .store 33 (.tmp 5) (.tmp 23), _, _, _, _⟩ :: _) _ _); refine wpList_store_row (o := ⟨none, .store 33 (.tmp 5) (.tmp 23), _, _, _, _⟩) rfl 33 (.tmp 5) (.tmp 23) rfl w2.heap.size (ge a ⟨A, vc⟩) rfl rfl 33 zE (heap_alloc_new _ _) (infoEs _ _) rfl (ge_one _ _) ?_; rw [new_set])
    have lR : w2.heap.size < (w2.alloc (.cells (ge a ⟨A, vc⟩) 33)).heap.size := row_lt HR.out
    generalize w2.alloc (.cells (ge a ⟨A, vc⟩) 33) = WB at *
    generalize w2.heap.size = R at *
    have lQB : Q < WB.heap.size := row_lt HQ2.out
    have HDO := Lib.hid HMK.out.ok
    have HEO := Lib.hid HME.out.ok
    replace hcap : a.e.length ≤ vc := hcap
    obtain ⟨n, hn⟩ : ∃ n : Nat, a.n = (n : Int) := ⟨a.n.toNat, by omega⟩
    have hn6 : n ≤ 16 := by omega
    have HAN := Lib.hid hn
    have HOK := Lib.hid HEO.out
    have HTW := Lib.hid HT2.out
    refine (next_any w.heap.size a.n WB HTW.out (by omega) (by omega)).mono ?_
    rintro e wm ⟨zi, a1, b1, rfl, hga, hta⟩
    obtain ⟨P, rfl⟩ : ∃ z : Nat, zi = z := ⟨zi.toNat, by omega⟩
    have HGA := Lib.hid hga
    have HTA := Lib.hid hta
    clear hga hta HTW hn
    go_upto_region 7 with (go_at_call 11; (with_reducible refine (next_any w.heap.size 32 wm HTA.out (by omega) (by omega)).mono ?_); rintro e w3 ⟨zj, a2, b2, rfl, hgn, htn⟩; obtain ⟨T, rfl⟩ : ∃ z : Nat, zj = z := ⟨zj.toNat, by omega⟩; have HGN := Lib.hid (gb_trans HGA.out hgn); clear hgn htn)
    have hgo : WB.grownBy w3 (some w.heap.size) := HGN.out
    have hqd := (hgo.block _ lQB (fun e => by injection e; omega)).trans HQ2.out
    have hqe := (hgo.block _ lR (fun e => by injection e; omega)).trans HR.out
    have hdd := HD2.out.grown hgo (fun g e => by cases e; omega)
    have hee := Row.grown HEL.out hgo (fun g e => by cases e; omega)
    have hbb := HB2.out.grown hgo HB2.out.size (fun k e => by cases e; exact Nat.le_refl _)
    have hPa : (P : Int) < a.n := by omega
    have hT : T < 32 := by omega
    clear hgo a1 b1 a2 b2 HGA HTA HGN HQ2 HR HD2 HEL HB2 HT2 g0 g1 c0 c1
    have HDQ := Lib.hid (fun wr (h : Below w3.heap.size w3 wr) => (h.block _ (row_lt hqd)).trans hqd)
    have HQF := Lib.hid (fun wr (h : Below w3.heap.size w3 wr) => (h.block _ (row_lt hqe)).trans hqe)
    have HDF := Lib.hid (fun wr (h : Below w3.heap.size w3 wr) => (hdd.below h).base (Nat.zero_le _))
    have HEF := Lib.hid (fun wr (h : Below w3.heap.size w3 wr) => Row.base (B' := 0) (Row.below hee h) (Nat.zero_le _))
    have HBF := Lib.hid (fun wr (h : Below w3.heap.size w3 wr) => hbb.trans (h.mono hbb.size))
    have lQ3 : Q < w3.heap.size := row_lt hqd
    have lR3 : R < w3.heap.size := row_lt hqe
    have hgq : ∀ w', Below w3.heap.size w3 w' → w'.cell? ⟨Q, 0, none⟩ = some (.slice D1 d.k.length dc1) ∧ w'.cell? ⟨Q, 1, none⟩ = some (.slice D2 d.e.length dc2) ∧ w'.cell? ⟨R, 0, none⟩ = some (.int .i64 a.n) ∧ w'.cell? ⟨R, 1, none⟩ = some (.slice A a.e.length vc) := fun w' hw =>
      have a1 := gdCells (HDQ.out _ hw)
      have a2 := geCells (HQF.out _ hw)
      ⟨a1.1, a1.2, a2.1, a2.2⟩
    have HKP := Lib.hid hgq
    have hwy := fun p w' (hw : Below w3.heap.size w3 w') => whyr_any d ⟨D1, dc1, D2, dc2⟩ a ⟨A, vc⟩ p P T w' (HDF.out _ hw) HDO.out (HEF.out _ hw) HEO.out hPa
    have hma := fun p w' (hw : Below w3.heap.size w3 w') => may_any d ⟨D1, dc1, D2, dc2⟩ a ⟨A, vc⟩ p P T w' (HDF.out _ hw) HDO.out (HEF.out _ hw) HEO.out hPa
    have hrb := fun p w' (hw : Below w3.heap.size w3 w') => reader_any 0 d ⟨D1, dc1, D2, dc2⟩ p w' (HDF.out _ hw) (by omega)
    have hup := fun p w' (hw : Below w3.heap.size w3 w') => rupw_any d ⟨D1, dc1, D2, dc2⟩ p T w' (HDF.out _ hw) HDO.out
    have hrf := fun p (hp : p < d.k.length) (hr : rB d p = true) w' (hw : Below w3.heap.size w3 w') (X : Option Addr) (xc : Nat) hs => refutes_up d ⟨D1, dc1, D2, dc2⟩ a ⟨A, vc⟩ p P T xc X w' (HDF.out _ hw) HDO.out (HEF.out _ hw) HEO.out hPa hr hp hs
    have hpp := fun p (hr : rB d p = true) lk gk (L : List Nat) X cs (hR : Rdg d a p P T lk gk L) (hcs : L.length ≤ cs) w' (hw : Below w3.heap.size w3 w') hl => pproves_any d ⟨D1, dc1, D2, dc2⟩ a ⟨A, vc⟩ p P T cs lk gk X L w' (HDF.out _ hw) HDO.out (HEF.out _ hw) HEO.out hPa hr hcap hR hl hcs
    unfold RyPost at hwy
    unfold SmPost at hup
    have HWY0 := Lib.hid hwy
    have HMA0 := Lib.hid hma
    have HRB0 := Lib.hid hrb
    have HUP0 := Lib.hid hup
    have HRF0 := Lib.hid hrf
    have HPP0 := Lib.hid hpp
    have HMI := Lib.hid (fun p => may_is d a p P T)
    clear hwy hma hrb hup hrf hpp hqd hqe hdd hee hbb hgq HAN HOK HMK HME
    obtain ⟨k1, k2, k3, k4⟩ := HKP.out _ (Below.refl _ _)
    go_wp2_with fail
    clear k1 k2 k3 k4
    go_loopw [33] (fun pp wr => ∃ p : Nat, p ≤ d.k.length ∧ pp = .int .i64 (p : Int) ∧ Below w3.heap.size w3 wr) (fun pp _ => (d.k.length - (intOf pp).toNat))
    case atStart => exact ⟨0, by omega, rfl, Below.refl _ _⟩
    case round =>
      obtain ⟨p, hp, rfl, hbl⟩ := hrel
      rename World => wv
      have HBV := Lib.hid hbl
      obtain ⟨k1, k2, k3, k4⟩ := HKP.out _ HBV.out
      by_cases hlp : p < d.k.length
      · have p0 : (0 : Int) ≤ (p : Int) := by omega
        have p1 : (p : Int) < (d.k.length : Int) := by omega
        have hwy := HWY0.out p
        have hma := HMA0.out p
        have hrb := HRB0.out
        have HUP := Lib.hid (HUP0.out p)
        have hil := idx_len (upB d T p) d.k.length
        have hrf := HRF0.out p hlp
        rw [hil] at hrf
        have hpp := HPP0.out p
        have hmi := HMI.out p
        cases hb : mayB d a p P T with
        | false =>
          rw [hb] at hma hrf
          have HWY := Lib.hid (fun w' hw => (hwy w' hw).mono (fun e w2 h => show e = .returned (.tuple #[.agg #[.int .i64 0, .int .i64 0, .int .i64 0, .int .i64 0, .slice none 0 0], .bool false]) ∧ Below w'.heap.size w' w2 from by
            rcases h with ⟨-, h⟩ | ⟨h, -⟩
            · exact h
            · rw [hb] at h; cases h))
          have HMA := Lib.hid hma
          cases hr : rB d p with
          | false =>
            have hrb := hrb p
            rw [hr] at hrb
            have HRB := Lib.hid (fun (_ : Nat) => hrb)
            clear hwy hma hrb hrf hpp hmi hbl hil hb hr HUP
            go_wp2_with (first
              | (go_at_call 12; rw [HFD.out, HFE.out]; (with_reducible refine (HWY.out _ HBV.out).mono ?_); rintro e w4 ⟨rfl, hb4⟩; have hbn := box_below w4 (.cells #[.int .i64 0, .int .i64 0, .int .i64 0, .int .i64 0, .slice none 0 0] 37); have B4 := Lib.hid (hb4.trans (hbn.mono hb4.size)); have HB4 := Lib.hid (HBV.out.trans (B4.out.mono HBV.out.size)); clear hb4 hbn k1 k2 k3 k4; obtain ⟨k1, k2, k3, k4⟩ := HKP.out _ HB4.out)
              | (go_at_call 13; rw [HFD.out]; (with_reducible refine (HRB.out p _ HB4.out).mono ?_); rintro e w5 ⟨rfl, hb5⟩; have B5 := Lib.hid (B4.out.trans (hb5.mono B4.out.size)); have HB5 := Lib.hid (HBV.out.trans (B5.out.mono HBV.out.size)); clear hb5 k1 k2 k3 k4; obtain ⟨k1, k2, k3, k4⟩ := HKP.out _ HB5.out)
              | (go_at_call 14; rw [HFD.out, HFE.out]; (with_reducible refine (HMA.out _ HB5.out).mono ?_); rintro e w6 ⟨rfl, hb6⟩; have B6 := Lib.hid (B5.out.trans (hb6.mono B5.out.size)); clear hb6))
            exact ⟨⟨p + 1, by omega, by go_num, HBV.out.trans (B6.out.mono HBV.out.size)⟩, by simp [intOf]; omega⟩
          | true =>
            have hrf := hrf hr
            have HRF := Lib.hid hrf
            have hrb := hrb p
            rw [hr] at hrb
            have HRB := Lib.hid (fun (_ : Nat) => hrb)
            clear hwy hma hrb hrf hpp hmi hbl hil hb hr
            go_upto_region 14 with (first
              | (go_at_call 12; rw [HFD.out, HFE.out]; (with_reducible refine (HWY.out _ HBV.out).mono ?_); rintro e w4 ⟨rfl, hb4⟩; have hbn := box_below w4 (.cells #[.int .i64 0, .int .i64 0, .int .i64 0, .int .i64 0, .slice none 0 0] 37); have B4 := Lib.hid (hb4.trans (hbn.mono hb4.size)); have HB4 := Lib.hid (HBV.out.trans (B4.out.mono HBV.out.size)); clear hb4 hbn k1 k2 k3 k4; obtain ⟨k1, k2, k3, k4⟩ := HKP.out _ HB4.out)
              | (go_at_call 13; rw [HFD.out]; (with_reducible refine (HRB.out p _ HB4.out).mono ?_); rintro e w5 ⟨rfl, hb5⟩; have B5 := Lib.hid (B4.out.trans (hb5.mono B4.out.size)); have HB5 := Lib.hid (HBV.out.trans (B5.out.mono HBV.out.size)); clear hb5 k1 k2 k3 k4; obtain ⟨k1, k2, k3, k4⟩ := HKP.out _ HB5.out))
            have hkq : ∀ w', Below w5.heap.size w5 w' → w'.cell? ⟨Q, 0, none⟩ = some (.slice D1 d.k.length dc1) ∧ w'.cell? ⟨Q, 1, none⟩ = some (.slice D2 d.e.length dc2) ∧ w'.cell? ⟨R, 0, none⟩ = some (.int .i64 a.n) ∧ w'.cell? ⟨R, 1, none⟩ = some (.slice A a.e.length vc) ∧ Below w5.heap.size w5 w' := fun w' hw =>
              have a1 := HKP.out _ (HB5.out.trans (hw.mono HB5.out.size))
              ⟨a1.1, a1.2.1, a1.2.2.1, a1.2.2.2, hw⟩
            have HKQ := Lib.hid hkq
            have HUP5 := Lib.hid (fun w' (hw : Below w5.heap.size w5 w') => HUP.out w' (HB5.out.trans (hw.mono HB5.out.size)))
            have HRF5 := Lib.hid (fun w' (hw : Below w5.heap.size w5 w') => HRF.out w' (HB5.out.trans (hw.mono HB5.out.size)))
            have bz1 : Below w5.heap.size w5 w5.drew := (Below.refl w5.heap.size w5).drew
            clear hkq k1 k2 k3 k4
            go_region_held3 (fun w' => w'.cell? ⟨Q, 0, none⟩ = some (.slice D1 d.k.length dc1) ∧ w'.cell? ⟨Q, 1, none⟩ = some (.slice D2 d.e.length dc2) ∧ w'.cell? ⟨R, 0, none⟩ = some (.int .i64 a.n) ∧ w'.cell? ⟨R, 1, none⟩ = some (.slice A a.e.length vc) ∧ Below w5.heap.size w5 w')
              (first | (with_reducible assumption) | (with_reducible exact HKQ.out _ (Below.refl _ _)) | (with_reducible exact HKQ.out _ bz1) | (with_reducible exact HKQ.out _ ba) | (with_reducible exact HKQ.out _ bb))
              (first
                | (go_at_call 16; rw [HFD.out]; (with_reducible refine (HUP5.out _ ?_).mono ?_); (go_split_ands; with_reducible assumption); rintro e wa1 ⟨X, xc, rfl, hown, hbb⟩; go_split_ands; have ba : Below w5.heap.size w5 wa1 := Below.trans (by with_reducible assumption) (hbb.mono (Below.size (by with_reducible assumption))); have RX := Lib.hid ((row_of_own hown).base (Nat.zero_le _)); clear hbb hown)
                | (go_at_call 15; (try rw [HFD.out]); rw [HFE.out]; (with_reducible refine (HRF5.out _ ?_ X xc ?_).mono ?_); (go_split_ands; with_reducible assumption); (with_reducible exact RX.out); rintro e wa2 ⟨rfl, hbb⟩; go_split_ands; have bb : Below w5.heap.size w5 wa2 := Below.trans (by with_reducible assumption) (hbb.mono (Below.size (by with_reducible assumption))); clear hbb))
            go_split_ands
            have BB := Lib.hid (show Below w5.heap.size w5 wa2 from bb)
            clear ba bb bz1 HUP5 HRF5
            have BW := Lib.hid (B5.out.trans (BB.out.mono B5.out.size))
            have HBW := Lib.hid (HBV.out.trans (BW.out.mono HBV.out.size))
            obtain ⟨k1, k2, k3, k4⟩ := HKP.out _ HBW.out
            go_wp2_with (go_at_call 14; rw [HFD.out, HFE.out]; (with_reducible refine (HMA.out _ HBW.out).mono ?_); rintro e w6 ⟨rfl, hb6⟩; have B6 := Lib.hid (BW.out.trans (hb6.mono BW.out.size)); clear hb6)
            exact ⟨⟨p + 1, by omega, by go_num, HBV.out.trans (B6.out.mono HBV.out.size)⟩, by simp [intOf]; omega⟩
        | true =>
          rw [hb] at hma hrf
          have hr : rB d p = true := by
            rw [hb] at hmi
            cases hx : rB d p with
            | true => rfl
            | false => rw [hx, Bool.false_and] at hmi; cases hmi
          have HWY := Lib.hid (fun w' hw => (hwy w' hw).mono (fun e w2 h => show ∃ lk gk L nL A0 c0, e = .returned (.tuple #[.agg #[.int .i64 (P : Int), .int .i64 (T : Int), .int .i64 lk, .int .i64 gk, .slice A0 nL c0], .bool true]) ∧ L.length = nL ∧ nL ≤ c0 ∧ Rdg d a p P T lk gk L ∧ Row w2 0 1 A0 nL (iv L) ∧ Below w'.heap.size w' w2 from by
            rcases h with ⟨h, -⟩ | ⟨-, lk, gk, L, A0, c0, h1, h2, h3, h4, h5⟩
            · rw [hb] at h; cases h
            · exact ⟨lk, gk, L, L.length, A0, c0, h1, rfl, h2, h3, h4, h5⟩))
          have HMA := Lib.hid hma
          have HRF := Lib.hid (hrf hr)
          have hrb := hrb p
          rw [hr] at hrb
          have HRB := Lib.hid (fun (_ : Nat) => hrb)
          have HPP := Lib.hid (hpp hr)
          clear hwy hma hrb hrf hpp hmi hbl hil hb hr
          go_upto_region 14 with (first
            | (go_at_call 12; rw [HFD.out, HFE.out]; (with_reducible refine (HWY.out _ HBV.out).mono ?_); rintro e w4 ⟨lk, gk, L, nL, A0, c0, rfl, hnl, hcs, hrd, hrl, hb4⟩; have hbn := box_below w4 (.cells #[.int .i64 (P : Int), .int .i64 (T : Int), .int .i64 lk, .int .i64 gk, .slice A0 nL c0] 37); have NZ4 := Lib.hid (heap_alloc_new w4 (.cells #[.int .i64 (P : Int), .int .i64 (T : Int), .int .i64 lk, .int .i64 gk, .slice A0 nL c0] 37)); have B4 := Lib.hid (hb4.trans (hbn.mono hb4.size)); have RL4 := Lib.hid (Row.below hrl hbn); have HRD := Lib.hid hrd; have HNL := Lib.hid hnl; have HCS := Lib.hid hcs; have HB4 := Lib.hid (HBV.out.trans (B4.out.mono HBV.out.size)); clear hb4 hbn hrl hrd hnl hcs k1 k2 k3 k4; obtain ⟨k1, k2, k3, k4⟩ := HKP.out _ HB4.out)
            | (go_at_call 13; rw [HFD.out]; (with_reducible refine (HRB.out p _ HB4.out).mono ?_); rintro e w5 ⟨rfl, hb5⟩; have B5 := Lib.hid (B4.out.trans (hb5.mono B4.out.size)); have HB5 := Lib.hid (HBV.out.trans (B5.out.mono HBV.out.size)); have NZ5 := Lib.hid ((hb5.block _ (row_lt NZ4.out)).trans NZ4.out); have RL5 := Lib.hid (RL4.out.below hb5); clear hb5 k1 k2 k3 k4; obtain ⟨k1, k2, k3, k4⟩ := HKP.out _ HB5.out))
          have hkq : ∀ w', Below w5.heap.size w5 w' → w'.cell? ⟨Q, 0, none⟩ = some (.slice D1 d.k.length dc1) ∧ w'.cell? ⟨Q, 1, none⟩ = some (.slice D2 d.e.length dc2) ∧ w'.cell? ⟨R, 0, none⟩ = some (.int .i64 a.n) ∧ w'.cell? ⟨R, 1, none⟩ = some (.slice A a.e.length vc) ∧ Below w5.heap.size w5 w' := fun w' hw =>
            have a1 := HKP.out _ (HB5.out.trans (hw.mono HB5.out.size))
            ⟨a1.1, a1.2.1, a1.2.2.1, a1.2.2.2, hw⟩
          have HKQ := Lib.hid hkq
          have HUP5 := Lib.hid (fun w' (hw : Below w5.heap.size w5 w') => HUP.out w' (HB5.out.trans (hw.mono HB5.out.size)))
          have HRF5 := Lib.hid (fun w' (hw : Below w5.heap.size w5 w') => HRF.out w' (HB5.out.trans (hw.mono HB5.out.size)))
          have bz1 : Below w5.heap.size w5 w5.drew := (Below.refl w5.heap.size w5).drew
          clear hkq k1 k2 k3 k4
          go_region_held3 (fun w' => w'.cell? ⟨Q, 0, none⟩ = some (.slice D1 d.k.length dc1) ∧ w'.cell? ⟨Q, 1, none⟩ = some (.slice D2 d.e.length dc2) ∧ w'.cell? ⟨R, 0, none⟩ = some (.int .i64 a.n) ∧ w'.cell? ⟨R, 1, none⟩ = some (.slice A a.e.length vc) ∧ Below w5.heap.size w5 w')
            (first | (with_reducible assumption) | (with_reducible exact HKQ.out _ (Below.refl _ _)) | (with_reducible exact HKQ.out _ bz1) | (with_reducible exact HKQ.out _ ba) | (with_reducible exact HKQ.out _ bb))
            (first
              | (go_at_call 16; rw [HFD.out]; (with_reducible refine (HUP5.out _ ?_).mono ?_); (go_split_ands; with_reducible assumption); rintro e wa1 ⟨X, xc, rfl, hown, hbb⟩; go_split_ands; have ba : Below w5.heap.size w5 wa1 := Below.trans (by with_reducible assumption) (hbb.mono (Below.size (by with_reducible assumption))); have RX := Lib.hid ((row_of_own hown).base (Nat.zero_le _)); clear hbb hown)
              | (go_at_call 15; (try rw [HFD.out]); rw [HFE.out]; (with_reducible refine (HRF5.out _ ?_ X xc ?_).mono ?_); (go_split_ands; with_reducible assumption); (with_reducible exact RX.out); rintro e wa2 ⟨rfl, hbb⟩; go_split_ands; have bb : Below w5.heap.size w5 wa2 := Below.trans (by with_reducible assumption) (hbb.mono (Below.size (by with_reducible assumption))); clear hbb))
          go_split_ands
          have BB := Lib.hid (show Below w5.heap.size w5 wa2 from bb)
          clear ba bb bz1 HUP5 HRF5
          have BW := Lib.hid (B5.out.trans (BB.out.mono B5.out.size))
          have HBW := Lib.hid (HBV.out.trans (BW.out.mono HBV.out.size))
          have NZW := Lib.hid ((BB.out.block _ (row_lt NZ5.out)).trans NZ5.out)
          have RLW := Lib.hid (RL5.out.below BB.out)
          obtain ⟨k1, k2, k3, k4⟩ := HKP.out _ HBW.out
          have HPR := Lib.hid (show ∀ w', Below wa2.heap.size wa2 w' → Calls Try.prog 17 #[.agg (gd d ⟨D1, dc1, D2, dc2⟩), .agg (ge a ⟨A, vc⟩), .int .i64 (p : Int), .agg #[.int .i64 (P : Int), .int .i64 (T : Int), .int .i64 lk, .int .i64 gk, .slice A0 nL c0]] w' fun e w2 => e = .returned (.bool true) ∧ Below w'.heap.size w' w2 from fun w' hw => by
            have h := HPP.out lk gk L A0 c0 HRD.out (by rw [HNL.out]; exact HCS.out) w' (HBW.out.trans (hw.mono HBW.out.size)) (by rw [HNL.out]; exact RLW.out.below hw)
            rw [HNL.out] at h
            exact h)
          go_wp2_with (first
            | (go_at_call 14; rw [HFD.out, HFE.out]; (with_reducible refine (HMA.out _ HBW.out).mono ?_); rintro e w6 ⟨rfl, hb6⟩; have B6 := Lib.hid (BB.out.trans (hb6.mono BB.out.size)); have BW6 := Lib.hid hb6; have BV6 := Lib.hid (BW.out.trans (hb6.mono BW.out.size)); have HB6 := Lib.hid (HBW.out.trans (hb6.mono HBW.out.size)); have NZ6 := (hb6.block _ (row_lt NZW.out)).trans NZW.out; clear hb6 k1 k2 k3 k4; obtain ⟨k1, k2, k3, k4⟩ := HKP.out _ HB6.out; obtain ⟨r0, r1, r2, r3, r4⟩ := rcCells (P := (P : Int)) (t := (T : Int)) (l := lk) (g := gk) (A := A0) (n := nL) (c := c0) NZ6)
            | (go_at_call 17; rw [HFD.out, HFE.out]; (with_reducible refine (HPR.out _ BW6.out).mono ?_); rintro e w7 ⟨rfl, hb7⟩; have B7 := Lib.hid (BV6.out.trans (hb7.mono BV6.out.size)); clear hb7))
          exact ⟨⟨p + 1, by omega, by go_num, HBV.out.trans (B7.out.mono HBV.out.size)⟩, by simp [intOf]; omega⟩
      · obtain rfl : d.k.length = p := by omega
        clear hbl
        go_wp2_with (go_at_call 8; refine (awake_any _).mono ?_; rintro e w9 ⟨rfl, hb9⟩; have HB9 := Lib.hid ((HBF.out _ HBV.out).trans (hb9.mono (HBF.out _ HBV.out).size)); clear hb9)
        go_ret
        exact ⟨by first | rfl | simp, HB9.out⟩

/-! ### THE ROW's STEP: WRITTEN OUT: LEAVE IT -/
set_option maxRecDepth 100000 in
theorem lifted (os : Os) (started : os.Started) (H : Type) (enc : TypeId × Value → H) :
    ReturnsInHanded {} Try.checked os 3 .any (Rows.readersProofsSpec.pre6 enc Try.prog Try.f3 Rows.readersProofsRow.domain false) (Rows.readersProofsSpec.post enc Try.prog Try.f3 false true false false) := by
  refine returnsInHanded_of_change (C := Try.checked) own started (by kernel_rfl) Try.func3
    (ChangeSpec.witness6 (enc := enc) (C := Try.checked) false ⟨#[], #[.slice none 0 0], []⟩ 8 (by kernel_rfl) (by kernel_rfl) (by kernel_rfl) (by kernel_rfl)) ?_
  intro W base args ds gs before hval0 hW hcnd _
  have hval : ∀ (j : Nat) t v, Try.f3.params[j]? = some t → args[j]? = some v → Value.okWide Try.prog W .any base t v := hval0
  have hW' := hW
  obtain ⟨p, q, hA0, hV, rfl, hfz, hnd⟩ := hW
  have hA : DataW.TrodAll enc Try.prog W 0 (fun _ => true) true Try.f3.params.toList args.toList ds p := hA0
  rw [Try.params3] at hA hval
  obtain ⟨v0, vs0, d0, ds0, p0, q0, hargs, rfl, rfl, h0, r0⟩ := trodAll_cons hA
  obtain ⟨rfl, rfl, rfl⟩ := trodAll_nil r0
  obtain rfl : args = #[v0] := by cases args; simp_all
  obtain ⟨rfl, rfl⟩ := trodVars_none hV
  obtain ⟨a0, len0, cap0, rfl⟩ := okWide_slice Try.underlying22 (hval 0 22 v0 rfl rfl)
  have k0 := h0
  have lt0 : ∀ x ∈ p0, x.block < W.heap.size := by obtain ⟨m, hm⟩ := k0; exact DataW.trod_lt m _ _ _ hm
  obtain ⟨z0, w0⟩ : ∃ zs, IsRow .i64 W a0 len0 cap0 zs := by
    obtain ⟨fuel, hf⟩ := h0
    rcases open_ints Try.underlying22 Try.underlying3 (by kernel_rfl) hf with ⟨hcs, _⟩ | ⟨x, l, c, zs, hcs, _, hl, hm, hz, _, hcell, hwz⟩
    · simp [Value.cells] at hcs
      obtain ⟨rfl, rfl, rfl⟩ := hcs
      exact ⟨[], .inl ⟨rfl, rfl, rfl, rfl⟩⟩
    · simp [Value.cells] at hcs
      obtain ⟨rfl, rfl, rfl⟩ := hcs
      exact ⟨zs, .inr ⟨_, rfl, hl, hm, by simpa using hz, hcell, hwz⟩⟩
  clear hA0 hval0
  refine (walk a0 len0 cap0 z0 W w0).mono fun e W' ⟨he, bel⟩ => ?_
  subst he
  exact ⟨_, rfl, _, _, _, [], _, [], hW', trodAll_mk1 (shut_bool Try.underlying4 _), (trodAll_cons_mk (Below.trod laidOut (by kernel_rfl) (of_decide_eq_true (by kernel_rfl)) k0 bel lt0) trodAll_mk0), rfl, bel.frame _, fun h => by cases h⟩

theorem over : Rows.readersProofsRow.holds Try.pinned (OpenSpec.ofChange Rows.readersProofsSpec) :=
  OpenClaim.holds_of_wide 3 Try.f3 rfl rfl rfl rfl rfl rfl rfl ⟨rfl, rfl, rfl, rfl, rfl⟩ rfl rfl rfl rfl rfl (by kernel_rfl) Try.func3 (by kernel_rfl)
    (of_decide_eq_true (by kernel_rfl)) (by unfold Func.isWrapper; first | (rw [if_pos (by decide +kernel)]; kernel_rfl) | (rw [if_neg (by decide +kernel)]; exact ⟨rfl, rfl⟩))
    (fun os started H enc _ => lifted os started H enc)

/-- ████ THE STATEMENT ████ -/
theorem proved : Rows.ReadersProofsSaid := over
#print axioms proved
end Go.Proofs.Ytgknfkmojhganaa.readersProofs
