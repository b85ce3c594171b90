/-
  The Go function leakresponse/leakresponselaw28.ReadersOpen returns true for every list of numbers, and leaves what was there as it was; no conditions. All readers may read an open place; a reader that may read one that is not open is, or is in, a principal with a grant.
-/
import Derived.Test.YtgknfkmojhganaaRdAll
import Derived.Test.YtgknfkmojhganaaRows
import Derived.Test.YtgknfkmojhganaaRdL
import Derived.Test.YtgknfkmojhganaaRdM
import Derived.BigQuiet
import Derived.WalkKit
import Derived.ProofKit
import Derived.OpenShut
import Derived.ShutString
import Derived.ChangeOld
import Derived.Below
import Derived.StillTailTactics
import Derived.Deep.CutBlock
namespace Go.Proofs.Ytgknfkmojhganaa.readersOpen
open Go.ChangeShapes Go.WideShapes Go.ChangeAt Go.RowKit
open Go.ChangeMaps (open_string shut_string)
open Go.Proofs.Ytgknfkmojhganaa.Tp
open Go.Proofs.Ytgknfkmojhganaa.Di
set_option linter.unusedVariables false
/-- A principal that is, or is in, another one. -/
noncomputable def wnB (d : Dy) (t p q : Nat) : Bool := rB d p && (p == q || (gB d q && grB d t p q))
theorem open_want {d : Dy} {a : Es} {p P t : Nat} (h : Ok d) (hp : p < d.k.length) (hn : d.k.length ≤ 24) :
    (((lkA a.e (P : Int) (t : Int)).isSome && rB d p) || anyB (fun i => wnB d t p ((idx (gdB a (P : Int) (t : Int)) 24).getD i 0)) (cnt (gdB a (P : Int) (t : Int)) 24)) = mayB d a p P t := by
  have h1 := any_idx (gdB a (P : Int) (t : Int)) (wnB d t p) 24
  rw [h1]
  unfold mayB
  cases hr : rB d p with
  | false =>
    rw [Bool.and_false, Bool.false_or, Bool.false_and, ← Bool.not_eq_true, any_iff]
    rintro ⟨i, -, hi⟩
    unfold wnB at hi
    rw [hr] at hi
    simp at hi
  | true =>
    rw [Bool.and_true, Bool.true_and]
    congr 1
    rw [Bool.eq_iff_iff, any_iff, any_iff]
    constructor
    · rintro ⟨q, h2, h3⟩
      rw [Bool.and_eq_true] at h3
      have h4 := h3.2
      unfold wnB at h4
      rw [hr, Bool.true_and] at h4
      have hq : q < d.k.length := by
        rw [Bool.or_eq_true, Bool.and_eq_true] at h4
        rcases h4 with h4 | h4
        · have := beq_iff_eq.1 h4; omega
        · have h5 := h4.1
          unfold gB at h5
          rw [Bool.and_eq_true, decide_eq_true_iff] at h5
          exact h5.1
      rw [in_up h hp hq] at h4
      refine ⟨q, hq, ?_⟩
      unfold keyB
      rw [h4, h3.1]
      rfl
    · rintro ⟨q, h2, h3⟩
      unfold keyB at h3
      rw [Bool.and_eq_true] at h3
      refine ⟨q, by omega, ?_⟩
      unfold wnB
      rw [in_up h hp h2, h3.1, h3.2, hr]
      rfl
set_option maxRecDepth 100000 in
set_option maxHeartbeats 16000000 in
theorem walk (a0 : Option Addr) (len0 cap0 : Nat) (z0 : List Int) (w : World) (w0 : IsRow .i64 w a0 len0 cap0 z0) :
    Calls Try.prog 4 #[.slice a0 len0 cap0] w fun e w' => e = .returned (.bool true) ∧ Below w.heap.size w w' := by
  have hm := w0.at_.1
  unfold maxLen at hm
  have HTP := Lib.hid (tape_new w0)
  have HBX := Lib.hid (box_below w (.cells #[.slice a0 len0 cap0, .int .i64 0] 26))
  clear w0
  by_cases hlen : 400 < len0
  · have hl0 : (400 : Int) < (len0 : Int) := by omega
    go_enter Try.func4, Try.ntmps4
    go_wp2_with (go_at_call 8; refine (awake_any _).mono ?_; rintro e w1 ⟨rfl, hb1⟩; have HB1 := Lib.hid hb1; clear hb1)
    go_ret
    exact ⟨rfl, HB1.out⟩
  · have hl0 : (len0 : Int) ≤ (400 : Int) := by omega
    go_enter Try.func4, Try.ntmps4
    go_wp2_with fail
    refine (directory_any w.heap.size _ HTP.out (by simp)).mono ?_
    rintro e w1 ⟨d, ⟨D1, dc1, D2, dc2⟩, rfl, hmk, hrl, hg1, ht1⟩
    have hb1 : Below w.heap.size w w1 := HBX.out.grown hg1 HBX.out.size (fun k e => by cases e; exact Nat.le_refl _)
    have hs1 := hg1.size
    simp at hs1
    have HQ := Lib.hid (heap_alloc_new w1 (.cells (gd d ⟨D1, dc1, D2, dc2⟩) 29))
    have HDL := Lib.hid ((hrl.base (show w.heap.size + 1 ≤ _ by simp)).below (box_below w1 (.cells (gd d ⟨D1, dc1, D2, dc2⟩) 29)))
    have HB1 := Lib.hid (hb1.trans ((box_below w1 (.cells (gd d ⟨D1, dc1, D2, dc2⟩) 29)).mono hb1.size))
    have HT1 := Lib.hid (tape_new2 ht1 (.cells (gd d ⟨D1, dc1, D2, dc2⟩) 29))
    have HMK := Lib.hid hmk
    have hn1 := hmk.n1
    have hn7 := hmk.n7
    have he11 := hmk.e11
    have lT1 : w.heap.size < w1.heap.size := by omega
    clear hrl hg1 ht1 hb1 hmk
    obtain ⟨g0, g1⟩ := gdCells HQ.out
    have HFD := Lib.hid (show (#[.slice D1 d.k.length dc1, .slice D2 d.e.length dc2] : Array Value) = gd d ⟨D1, dc1, D2, dc2⟩ from rfl)
    go_wp2_with (with_reducible (show wpList _ _ _ (⟨none, .store 29 (.tmp 4) (.tmp 24), _, _, _, _⟩ :: _) _ _); refine wpList_store_row (o := ⟨none, .store 29 (.tmp 4) (.tmp 24), _, _, _, _⟩) rfl 29 (.tmp 4) (.tmp 24) rfl w1.heap.size (gd d ⟨D1, dc1, D2, dc2⟩) rfl rfl 29 zD (heap_alloc_new _ _) (info25 _ _) rfl (gd_one _ _) ?_; rw [new_set])
    have lQ : w1.heap.size < (w1.alloc (.cells (gd d ⟨D1, dc1, D2, dc2⟩) 29)).heap.size := row_lt HQ.out
    generalize w1.alloc (.cells (gd d ⟨D1, dc1, D2, dc2⟩) 29) = WA at *
    generalize w1.heap.size = Q at *
    rw [HFD.out]
    refine (estate_cap w.heap.size d ⟨D1, dc1, D2, dc2⟩ WA HT1.out (by omega) hn1 hn7).mono ?_
    rintro e w2 ⟨a, ⟨A, vc⟩, rfl, hme, hel, hg2, ht2, hcap⟩
    have hb2 : Below w.heap.size w w2 := HB1.out.grown hg2 HB1.out.size (fun k e => by cases e; exact Nat.le_refl _)
    have hs2 : w.heap.size + 1 ≤ w2.heap.size := by have := hg2.size; omega
    have hq2 := (hg2.block _ lQ (fun e => by injection e; omega)).trans HQ.out
    have hbe := box_below w2 (.cells (ge a ⟨A, vc⟩) 33)
    have HQ2 := Lib.hid ((hbe.block _ (row_lt hq2)).trans hq2)
    have HD2 := Lib.hid ((HDL.out.grown hg2 (fun g e => by cases e; omega)).below hbe)
    have HR := Lib.hid (heap_alloc_new w2 (.cells (ge a ⟨A, vc⟩) 33))
    have HEL := Lib.hid (Row.below (hel.base (show w.heap.size + 1 ≤ _ by omega)) hbe)
    have HB2 := Lib.hid (hb2.trans (hbe.mono hb2.size))
    have HT2 := Lib.hid (tape_new2 ht2 (.cells (ge a ⟨A, vc⟩) 33))
    have HME := Lib.hid hme
    have ha1 := hme.ok.n1
    have ha4 := hme.n4
    have ha15 := hme.m15
    have hRs : Q < w2.heap.size := row_lt hq2
    clear hel hg2 ht2 hb2 hme HB1 HT1 HBX HTP hbe hq2 HQ HDL g0 g1
    obtain ⟨g0, g1⟩ := gdCells HQ2.out
    obtain ⟨c0, c1⟩ := geCells HR.out
    have HFE := Lib.hid (show (#[.int .i64 a.n, .slice A a.e.length vc] : Array Value) = ge a ⟨A, vc⟩ from rfl)
    go_wp2_with (with_reducible (show wpList _ _ _ (⟨none, .store 33 (.tmp 5) (.tmp 27), _, _, _, _⟩ :: _) _ _); refine wpList_store_row (o := ⟨none, .store 33 (.tmp 5) (.tmp 27), _, _, _, _⟩) rfl 33 (.tmp 5) (.tmp 27) rfl w2.heap.size (ge a ⟨A, vc⟩) rfl rfl 33 zE (heap_alloc_new _ _) (infoEs _ _) rfl (ge_one _ _) ?_; rw [new_set])
    have lR : w2.heap.size < (w2.alloc (.cells (ge a ⟨A, vc⟩) 33)).heap.size := row_lt HR.out
    generalize w2.alloc (.cells (ge a ⟨A, vc⟩) 33) = WB at *
    generalize w2.heap.size = R at *
    have lQB : Q < WB.heap.size := row_lt HQ2.out
    have HDO := Lib.hid HMK.out.ok
    have HEO := Lib.hid HME.out.ok
    replace hcap : a.e.length ≤ vc := hcap
    obtain ⟨n, hn⟩ : ∃ n : Nat, a.n = (n : Int) := ⟨a.n.toNat, by omega⟩
    have hn6 : n ≤ 16 := by omega
    have HAN := Lib.hid hn
    have HOK := Lib.hid HEO.out
    have HTW := Lib.hid HT2.out
    refine (next_any w.heap.size a.n WB HTW.out (by omega) (by omega)).mono ?_
    rintro e wm ⟨zi, a1, b1, rfl, hga, hta⟩
    obtain ⟨P, rfl⟩ : ∃ z : Nat, zi = z := ⟨zi.toNat, by omega⟩
    have HGA := Lib.hid hga
    have HTA := Lib.hid hta
    clear hga hta HTW hn
    go_upto_region 7 with (go_at_call 11; (with_reducible refine (next_any w.heap.size 32 wm HTA.out (by omega) (by omega)).mono ?_); rintro e w3 ⟨zj, a2, b2, rfl, hgn, htn⟩; obtain ⟨T, rfl⟩ : ∃ z : Nat, zj = z := ⟨zj.toNat, by omega⟩; have HGN := Lib.hid (gb_trans HGA.out hgn); clear hgn htn)
    have hgo : WB.grownBy w3 (some w.heap.size) := HGN.out
    have hqd := (hgo.block _ lQB (fun e => by injection e; omega)).trans HQ2.out
    have hqe := (hgo.block _ lR (fun e => by injection e; omega)).trans HR.out
    have hdd := HD2.out.grown hgo (fun g e => by cases e; omega)
    have hee := Row.grown HEL.out hgo (fun g e => by cases e; omega)
    have hbb := HB2.out.grown hgo HB2.out.size (fun k e => by cases e; exact Nat.le_refl _)
    have hPa : (P : Int) < a.n := by omega
    have hT : T < 32 := by omega
    clear hgo a1 b1 a2 b2 HGA HTA HGN HQ2 HR HD2 HEL HB2 HT2 g0 g1 c0 c1
    have HDQ := Lib.hid (fun wr (h : Below w3.heap.size w3 wr) => (h.block _ (row_lt hqd)).trans hqd)
    have HQF := Lib.hid (fun wr (h : Below w3.heap.size w3 wr) => (h.block _ (row_lt hqe)).trans hqe)
    have HDF := Lib.hid (fun wr (h : Below w3.heap.size w3 wr) => (hdd.below h).base (Nat.zero_le _))
    have HEF := Lib.hid (fun wr (h : Below w3.heap.size w3 wr) => Row.base (B' := 0) (Row.below hee h) (Nat.zero_le _))
    have HBF := Lib.hid (fun wr (h : Below w3.heap.size w3 wr) => hbb.trans (h.mono hbb.size))
    have lQ3 : Q < w3.heap.size := row_lt hqd
    have lR3 : R < w3.heap.size := row_lt hqe
    have hgq : ∀ w', Below w3.heap.size w3 w' → w'.cell? ⟨Q, 0, none⟩ = some (.slice D1 d.k.length dc1) ∧ w'.cell? ⟨Q, 1, none⟩ = some (.slice D2 d.e.length dc2) ∧ w'.cell? ⟨R, 0, none⟩ = some (.int .i64 a.n) ∧ w'.cell? ⟨R, 1, none⟩ = some (.slice A a.e.length vc) := fun w' hw =>
      have a1 := gdCells (HDQ.out _ hw)
      have a2 := geCells (HQF.out _ hw)
      ⟨a1.1, a1.2, a2.1, a2.2⟩
    have HKP := Lib.hid hgq
    have hwa := fun w' (hw : Below w3.heap.size w3 w') => who_any d ⟨D1, dc1, D2, dc2⟩ a ⟨A, vc⟩ P T w' (HDF.out _ hw) HDO.out (HEF.out _ hw) HEO.out hPa
    have hlk := fun w' (hw : Below w3.heap.size w3 w') => rlinked_any a ⟨A, vc⟩ (P : Int) (T : Int) w' (HEF.out _ hw) HOK.out ⟨by omega, hPa⟩ hcap
    have hgr := fun w' (hw : Below w3.heap.size w3 w') => rgranted_any a ⟨A, vc⟩ (P : Int) (T : Int) w' (HEF.out _ hw) HOK.out ⟨by omega, hPa⟩
    have hrb := fun p w' (hw : Below w3.heap.size w3 w') => reader_any 0 d ⟨D1, dc1, D2, dc2⟩ p w' (HDF.out _ hw) (by omega)
    have hin := fun p q (hp : p < d.k.length) w' (hw : Below w3.heap.size w3 w') => rin_any d ⟨D1, dc1, D2, dc2⟩ p q T w' (HDF.out _ hw) HDO.out hp
    have hmb := fun p (hp : p < d.k.length) => open_want (a := a) (P := P) (t := T) HDO.out hp (by omega)
    have hhi := (show ∀ i, i < d.k.length → anyB (fun j => (idx (fun p => mayB d a p P T) d.k.length).getD j 0 == i) (cnt (fun p => mayB d a p P T) d.k.length) = mayB d a i P T from fun i hi => has_idx _ _ i hi)
    have hil := idx_len (gdB a (P : Int) (T : Int)) 24
    have hcl := cnt_le (gdB a (P : Int) (T : Int)) 24
    have hnm := cnt_le (fun p => mayB d a p P T) d.k.length
    unfold WoPost at hwa
    unfold SmPost at hgr
    generalize (lkA a.e (P : Int) (T : Int)).isSome = ob at *
    generalize cnt (fun p => mayB d a p P T) d.k.length = nm at *
    generalize idx (fun p => mayB d a p P T) d.k.length = LM at *
    generalize cnt (gdB a (P : Int) (T : Int)) 24 = ng at *
    generalize idx (gdB a (P : Int) (T : Int)) 24 = LG at *
    have HWA := Lib.hid hwa
    have HLK := Lib.hid hlk
    have HGR := Lib.hid hgr
    have HRB := Lib.hid hrb
    have HIN := Lib.hid hin
    have HMB := Lib.hid hmb
    have HHI := Lib.hid hhi
    have HIL := Lib.hid hil
    clear hwa hlk hgr hrb hin hmb hhi hil hqd hqe hdd hee hbb hgq HAN HOK HMK HME HEO
    obtain ⟨k1, k2, k3, k4⟩ := HKP.out _ (Below.refl _ _)
    have e9 : (ob != ob) = false := by simp
    go_wp2_with (first
      | (go_at_call 18; rw [HFD.out, HFE.out]; (with_reducible refine (HWA.out _ (Below.refl _ _)).mono ?_); rintro e w8 ⟨X, xc, rfl, hrow, hb8⟩; have hbn := box_below w8 (.cells #[.bool ob, .slice X nm xc] 47); have NX := Lib.hid (heap_alloc_new w8 (.cells #[.bool ob, .slice X nm xc] 47)); have B9 := Lib.hid (hb8.trans (hbn.mono hb8.size)); have RX := Lib.hid ((hrow.base (Nat.zero_le _)).below hbn); clear hb8 hrow hbn k1 k2 k3 k4 HWA; obtain ⟨k1, k2, k3, k4⟩ := HKP.out _ B9.out)
      | (go_at_call 19; rw [HFE.out]; (with_reducible refine (HLK.out _ B9.out).mono ?_); rintro e wz ⟨⟨z, rfl⟩, hbz⟩; have BZ := Lib.hid (B9.out.trans (hbz.mono B9.out.size)); have NZ := Lib.hid ((hbz.block _ (row_lt NX.out)).trans NX.out); have RZ := Lib.hid (RX.out.below hbz); clear hbz k1 k2 k3 k4 HLK NX RX B9; obtain ⟨k1, k2, k3, k4⟩ := HKP.out _ BZ.out; obtain ⟨x0, x1⟩ := auCells (b := ob) (A := X) (n := nm) (c := xc) NZ.out))
    clear k1 k2 k3 k4 x0 x1
    go_loopw [60] (fun pp wr => ∃ p : Nat, p ≤ d.k.length ∧ pp = .int .i64 (p : Int) ∧ Below wz.heap.size wz wr) (fun pp _ => (d.k.length - (intOf pp).toNat))
    case atStart => exact ⟨0, by omega, rfl, Below.refl _ _⟩
    case round =>
      obtain ⟨p, hp, rfl, hbl⟩ := hrel
      rename World => wv
      have HBL := Lib.hid hbl
      have HBV := Lib.hid (BZ.out.trans (hbl.mono BZ.out.size))
      obtain ⟨k1, k2, k3, k4⟩ := HKP.out _ HBV.out
      by_cases hlp : p < d.k.length
      · have p0 : (0 : Int) ≤ (p : Int) := by omega
        have p1 : (p : Int) < (d.k.length : Int) := by omega
        have HRP := Lib.hid (HRB.out p)
        have HIP := Lib.hid (fun q => HIN.out p q hlp)
        have HMP := Lib.hid (HMB.out p hlp)
        have HHP := Lib.hid (HHI.out p hlp)
        have HWN := Lib.hid (show ∀ q, wnB d T p q = (rB d p && (p == q || (gB d q && grB d T p q))) from fun q => rfl)
        generalize mayB d a p P T = mb at *
        generalize rB d p = rb at *
        have e8 : (mb != mb) = false := by simp
        have HOR := Lib.hid (show (ob && rb) = (ob && rb) from rfl)
        clear hbl
        go_upto_region 14 with fail
        go_cut [13] from 64 to 68 (fun s13 wx => s13 = .bool (ob && rb) ∧ Below wv.heap.size wv wx)
        case first =>
          cases ob with
          | true =>
            go_wp2_with (go_at_call 13; rw [HFD.out]; (with_reducible refine (HRP.out _ HBV.out).mono ?_); rintro e wr1 ⟨rfl, hbr⟩; have BR := Lib.hid hbr; clear hbr)
            go_meet
            case rel => exact ⟨by simp, BR.out⟩
          | false =>
            go_wp2_with fail
            go_meet
            case rel => exact ⟨by simp, Below.refl _ _⟩
        case rest =>
        obtain ⟨rfl, hbx⟩ := hcut
        have HBC := Lib.hid (BZ.out.trans ((HBL.out.trans (hbx.mono HBL.out.size)).mono BZ.out.size))
        have BC := Lib.hid (HBL.out.trans (hbx.mono HBL.out.size))
        clear hbx k1 k2 k3 k4
        obtain ⟨k1, k2, k3, k4⟩ := HKP.out _ HBC.out
        obtain ⟨W, hW⟩ : ∃ W : Nat → Bool, ∀ i, W i = ((ob && rb) || anyB (fun i => wnB d T p (LG.getD i 0)) i) := ⟨_, fun _ => rfl⟩
        have HW0 := Lib.hid (show W 0 = (ob && rb) by rw [hW]; simp [anyB])
        have HWS := Lib.hid (show ∀ i, W (i + 1) = (W i || wnB d T p (LG.getD i 0)) from fun i => by rw [hW, hW, Bool.or_assoc]; rfl)
        have HWE := Lib.hid (show W ng = mb by rw [hW]; exact HMP.out)
        clear hW HOR
        rw [← HW0.out]
        go_wp2_with (go_at_call 20; rw [HFE.out]; (with_reducible refine (HGR.out _ HBC.out).mono ?_); rintro e w5 ⟨G, gc, rfl, hown, hb5⟩; have B5 := Lib.hid (BC.out.trans (hb5.mono BC.out.size)); have RG := Lib.hid ((row_of_own hown).base (Nat.zero_le _)); clear hb5 hown k1 k2 k3 k4)
        go_loopw [13, 74] (fun wt jj wr => ∃ i : Nat, i ≤ ng ∧ wt = .bool (W i) ∧ jj = .int .i64 (i : Int) ∧ Below w5.heap.size w5 wr) (fun _ jj _ => (ng - (intOf jj).toNat))
        case atStart => exact ⟨0, by omega, rfl, rfl, Below.refl _ _⟩
        case round =>
          obtain ⟨i, hi, rfl, rfl, hbl⟩ := hrel
          rename World => wy
          have HBY := Lib.hid hbl
          have BY := Lib.hid (B5.out.trans (hbl.mono B5.out.size))
          have HBK := Lib.hid (BZ.out.trans (BY.out.mono BZ.out.size))
          by_cases hli : i < ng
          · obtain ⟨b, off, hG, -, -, y0⟩ := (RG.out.below hbl).int hli
            subst hG
            have HST := Lib.hid (HWS.out i)
            have i0 : (0 : Int) ≤ (i : Int) := by omega
            have i1 : (i : Int) < (ng : Int) := by omega
            generalize LG.getD i 0 = q at *
            have HIQ := Lib.hid (HIP.out q)
            have HWQ := Lib.hid (HWN.out q)
            generalize (gB d q && grB d T p q) = ib at *
            generalize wnB d T p q = wn at *
            obtain ⟨w1', hw1⟩ : ∃ w1', W (i + 1) = w1' := ⟨_, rfl⟩
            have HW1 := Lib.hid hw1
            have hst := HST.out
            rw [hw1] at hst
            have HSN := Lib.hid hst
            obtain ⟨k1, k2, k3, k4⟩ := HKP.out _ HBK.out
            generalize W i = w0 at *
            clear hw1 hst HST hbl
            cases w0 with
            | true =>
              obtain rfl : w1' = true := by rw [HSN.out]; rfl
              go_wp2_with fail
              exact ⟨⟨i + 1, by omega, by rw [HW1.out], by go_num, HBY.out⟩, by simp [intOf]; omega⟩
            | false =>
              cases rb with
              | false =>
                obtain rfl : w1' = false := by rw [HSN.out, HWQ.out]; rfl
                go_wp2_with (go_at_call 13; rw [HFD.out]; (with_reducible refine (HRP.out _ HBK.out).mono ?_); rintro e wr1 ⟨rfl, hbr⟩; have BR := Lib.hid (HBY.out.trans (hbr.mono HBY.out.size)); clear hbr k1 k2 k3 k4; obtain ⟨k1, k2, k3, k4⟩ := HKP.out _ (BZ.out.trans ((B5.out.trans (BR.out.mono B5.out.size)).mono BZ.out.size)))
                exact ⟨⟨i + 1, by omega, by rw [HW1.out], by go_num, BR.out⟩, by simp [intOf]; omega⟩
              | true =>
                by_cases hpq : p = q
                · have e5 : ((p : Int) == (q : Int)) = true := by rw [hpq]; simp
                  have e5n : (p == q) = true := by rw [hpq]; simp
                  obtain rfl : w1' = true := by rw [HSN.out, HWQ.out, e5n]; rfl
                  clear hpq
                  go_wp2_with (go_at_call 13; rw [HFD.out]; (with_reducible refine (HRP.out _ HBK.out).mono ?_); rintro e wr1 ⟨rfl, hbr⟩; have BR := Lib.hid (HBY.out.trans (hbr.mono HBY.out.size)); clear hbr k1 k2 k3 k4; obtain ⟨k1, k2, k3, k4⟩ := HKP.out _ (BZ.out.trans ((B5.out.trans (BR.out.mono B5.out.size)).mono BZ.out.size)))
                  exact ⟨⟨i + 1, by omega, by rw [HW1.out], by go_num, BR.out⟩, by simp [intOf]; omega⟩
                · have e5 : ((p : Int) == (q : Int)) = false := beq_eq_false_iff_ne.2 (by omega)
                  have e5n : (p == q) = false := beq_eq_false_iff_ne.2 hpq
                  clear hpq
                  cases ib with
                  | true =>
                    obtain rfl : w1' = true := by rw [HSN.out, HWQ.out, e5n]; rfl
                    go_wp2_with (first
                      | (go_at_call 13; rw [HFD.out]; (with_reducible refine (HRP.out _ HBK.out).mono ?_); rintro e wr1 ⟨rfl, hbr⟩; have BR := Lib.hid (HBY.out.trans (hbr.mono HBY.out.size)); have HBR := Lib.hid (BZ.out.trans ((B5.out.trans (BR.out.mono B5.out.size)).mono BZ.out.size)); clear hbr k1 k2 k3 k4; obtain ⟨k1, k2, k3, k4⟩ := HKP.out _ HBR.out)
                      | (go_at_call 21; rw [HFD.out]; (with_reducible refine (HIQ.out _ HBR.out).mono ?_); rintro e wr2 ⟨rfl, hbi⟩; have BI := Lib.hid (BR.out.trans (hbi.mono BR.out.size)); clear hbi))
                    exact ⟨⟨i + 1, by omega, by rw [HW1.out], by go_num, BI.out⟩, by simp [intOf]; omega⟩
                  | false =>
                    obtain rfl : w1' = false := by rw [HSN.out, HWQ.out, e5n]; rfl
                    go_wp2_with (first
                      | (go_at_call 13; rw [HFD.out]; (with_reducible refine (HRP.out _ HBK.out).mono ?_); rintro e wr1 ⟨rfl, hbr⟩; have BR := Lib.hid (HBY.out.trans (hbr.mono HBY.out.size)); have HBR := Lib.hid (BZ.out.trans ((B5.out.trans (BR.out.mono B5.out.size)).mono BZ.out.size)); clear hbr k1 k2 k3 k4; obtain ⟨k1, k2, k3, k4⟩ := HKP.out _ HBR.out)
                      | (go_at_call 21; rw [HFD.out]; (with_reducible refine (HIQ.out _ HBR.out).mono ?_); rintro e wr2 ⟨rfl, hbi⟩; have BI := Lib.hid (BR.out.trans (hbi.mono BR.out.size)); clear hbi))
                    exact ⟨⟨i + 1, by omega, by rw [HW1.out], by go_num, BI.out⟩, by simp [intOf]; omega⟩
          · obtain rfl : i = ng := by omega
            have RXY := Lib.hid (RZ.out.below BY.out)
            have NZY := Lib.hid ((BY.out.block _ (row_lt NZ.out)).trans NZ.out)
            have hha := fun w' (h : Row w' 0 1 X nm (iv LM)) => has_any LM p X nm xc w' h (by omega)
            rw [HHP.out] at hha
            have HHA := Lib.hid (hha _ RXY.out)
            obtain ⟨x0, x1⟩ := auCells (b := ob) (A := X) (n := nm) (c := xc) NZY.out
            have hwe := HWE.out
            generalize W i = wq at *
            obtain rfl : wq = mb := hwe
            clear hha hbl
            go_wp2_with (go_at_call 22; (with_reducible refine HHA.out.mono ?_); rintro e wy ⟨rfl, rfl⟩)
            exact ⟨⟨p + 1, by omega, by go_num, BY.out⟩, by simp [intOf]; omega⟩
      · obtain rfl : d.k.length = p := by omega
        clear hbl
        go_wp2_with (go_at_call 8; refine (awake_any _).mono ?_; rintro e w9 ⟨rfl, hb9⟩; have HB9 := Lib.hid ((HBF.out _ HBV.out).trans (hb9.mono (HBF.out _ HBV.out).size)); clear hb9)
        go_ret
        exact ⟨by first | rfl | simp, HB9.out⟩

/-! ### THE ROW's STEP: WRITTEN OUT: LEAVE IT -/
set_option maxRecDepth 100000 in
theorem lifted (os : Os) (started : os.Started) (H : Type) (enc : TypeId × Value → H) :
    ReturnsInHanded {} Try.checked os 4 .any (Rows.readersOpenSpec.pre6 enc Try.prog Try.f4 Rows.readersOpenRow.domain false) (Rows.readersOpenSpec.post enc Try.prog Try.f4 false true false false) := by
  refine returnsInHanded_of_change (C := Try.checked) own started (by kernel_rfl) Try.func4
    (ChangeSpec.witness6 (enc := enc) (C := Try.checked) false ⟨#[], #[.slice none 0 0], []⟩ 8 (by kernel_rfl) (by kernel_rfl) (by kernel_rfl) (by kernel_rfl)) ?_
  intro W base args ds gs before hval0 hW hcnd _
  have hval : ∀ (j : Nat) t v, Try.f4.params[j]? = some t → args[j]? = some v → Value.okWide Try.prog W .any base t v := hval0
  have hW' := hW
  obtain ⟨p, q, hA0, hV, rfl, hfz, hnd⟩ := hW
  have hA : DataW.TrodAll enc Try.prog W 0 (fun _ => true) true Try.f4.params.toList args.toList ds p := hA0
  rw [Try.params4] at hA hval
  obtain ⟨v0, vs0, d0, ds0, p0, q0, hargs, rfl, rfl, h0, r0⟩ := trodAll_cons hA
  obtain ⟨rfl, rfl, rfl⟩ := trodAll_nil r0
  obtain rfl : args = #[v0] := by cases args; simp_all
  obtain ⟨rfl, rfl⟩ := trodVars_none hV
  obtain ⟨a0, len0, cap0, rfl⟩ := okWide_slice Try.underlying22 (hval 0 22 v0 rfl rfl)
  have k0 := h0
  have lt0 : ∀ x ∈ p0, x.block < W.heap.size := by obtain ⟨m, hm⟩ := k0; exact DataW.trod_lt m _ _ _ hm
  obtain ⟨z0, w0⟩ : ∃ zs, IsRow .i64 W a0 len0 cap0 zs := by
    obtain ⟨fuel, hf⟩ := h0
    rcases open_ints Try.underlying22 Try.underlying3 (by kernel_rfl) hf with ⟨hcs, _⟩ | ⟨x, l, c, zs, hcs, _, hl, hm, hz, _, hcell, hwz⟩
    · simp [Value.cells] at hcs
      obtain ⟨rfl, rfl, rfl⟩ := hcs
      exact ⟨[], .inl ⟨rfl, rfl, rfl, rfl⟩⟩
    · simp [Value.cells] at hcs
      obtain ⟨rfl, rfl, rfl⟩ := hcs
      exact ⟨zs, .inr ⟨_, rfl, hl, hm, by simpa using hz, hcell, hwz⟩⟩
  clear hA0 hval0
  refine (walk a0 len0 cap0 z0 W w0).mono fun e W' ⟨he, bel⟩ => ?_
  subst he
  exact ⟨_, rfl, _, _, _, [], _, [], hW', trodAll_mk1 (shut_bool Try.underlying4 _), (trodAll_cons_mk (Below.trod laidOut (by kernel_rfl) (of_decide_eq_true (by kernel_rfl)) k0 bel lt0) trodAll_mk0), rfl, bel.frame _, fun h => by cases h⟩

theorem over : Rows.readersOpenRow.holds Try.pinned (OpenSpec.ofChange Rows.readersOpenSpec) :=
  OpenClaim.holds_of_wide 4 Try.f4 rfl rfl rfl rfl rfl rfl rfl ⟨rfl, rfl, rfl, rfl, rfl⟩ rfl rfl rfl rfl rfl (by kernel_rfl) Try.func4 (by kernel_rfl)
    (of_decide_eq_true (by kernel_rfl)) (by unfold Func.isWrapper; first | (rw [if_pos (by decide +kernel)]; kernel_rfl) | (rw [if_neg (by decide +kernel)]; exact ⟨rfl, rfl⟩))
    (fun os started H enc _ => lifted os started H enc)

/-- ████ THE STATEMENT ████ -/
theorem proved : Rows.ReadersOpenSaid := over
#print axioms proved
end Go.Proofs.Ytgknfkmojhganaa.readersOpen
