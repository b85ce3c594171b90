/-
  The Go function leakresponse/leakresponselaw30.ExposureReaders returns true for every list of numbers, and leaves what was there as it was; no conditions. A reader has an exposure exactly if it could read at some time, its time is the first one, and a leak proves it.
-/
import Derived.Test.YtgknfkmojhganaaGreatExAll
import Derived.Test.YtgknfkmojhganaaGreatRows
import Derived.Test.YtgknfkmojhganaaGreatMkM
import Derived.Test.YtgknfkmojhganaaGreatExFour
import Derived.BigQuiet
import Derived.WalkKit
import Derived.ProofKit
import Derived.OpenShut
import Derived.ShutString
import Derived.ChangeOld
import Derived.Below
import Derived.StillTailTactics
import Derived.Deep.CutBlock
namespace Go.Proofs.YtgknfkmojhganaaGreat.exposureReaders
open Go.ChangeShapes Go.WideShapes Go.ChangeAt Go.RowKit
open Go.ChangeMaps (open_string shut_string)
open Go.Proofs.YtgknfkmojhganaaGreat.Tp
open Go.Proofs.YtgknfkmojhganaaGreat.Di
set_option linter.unusedVariables false
set_option linter.unusedSimpArgs false
/-- What the search through the times before t has found. -/
def fT (o : Option Nat) (t : Nat) : Int := match o with | some T => if T < t then (T : Int) else -1 | none => -1
/-- What it finds in the end. -/
def rT (o : Option Nat) : Int := match o with | some T => (T : Int) | none => -1

set_option maxRecDepth 100000 in
set_option maxHeartbeats 16000000 in
theorem walk (a0 : Option Addr) (len0 cap0 : Nat) (z0 : List Int) (w : World) (w0 : IsRow .i64 w a0 len0 cap0 z0) :
    Calls Tryz.prog 4 #[.slice a0 len0 cap0] w fun e w' => e = .returned (.bool true) ∧ Below w.heap.size w w' := by
  have hm := w0.at_.1
  unfold maxLen at hm
  have HTP := Lib.hid (tape_new w0)
  have HBX := Lib.hid (box_below w (.cells #[.slice a0 len0 cap0, .int .i64 0] 34))
  clear w0
  by_cases hlen : 400 < len0
  · have hl0 : (400 : Int) < (len0 : Int) := by omega
    go_enter Tryz.func4, Tryz.ntmps4
    go_wp2_with (go_at_call 26; refine (xawake_any _).mono ?_; rintro e w1 ⟨rfl, hb1⟩; have HB1 := Lib.hid hb1; clear hb1)
    go_ret
    exact ⟨rfl, HB1.out⟩
  · have hl0 : (len0 : Int) ≤ (400 : Int) := by omega
    go_enter Tryz.func4, Tryz.ntmps4
    go_wp2_with fail
    refine (T.directory_any w.heap.size _ HTP.out (by simp)).mono ?_
    rintro e w1 ⟨d, ⟨D1, dc1, D2, dc2⟩, rfl, hmk, hrl, hg1, ht1⟩
    have hb1 : Below w.heap.size w w1 := HBX.out.grown hg1 HBX.out.size (fun k e => by cases e; exact Nat.le_refl _)
    have hs1 := hg1.size
    simp at hs1
    have HQ := Lib.hid (heap_alloc_new w1 (.cells (gd d ⟨D1, dc1, D2, dc2⟩) 25))
    have HDL := Lib.hid ((hrl.base (show w.heap.size + 1 ≤ _ by simp)).below (box_below w1 (.cells (gd d ⟨D1, dc1, D2, dc2⟩) 25)))
    have HB1 := Lib.hid (hb1.trans ((box_below w1 (.cells (gd d ⟨D1, dc1, D2, dc2⟩) 25)).mono hb1.size))
    have HT1 := Lib.hid (tape_new2 ht1 (.cells (gd d ⟨D1, dc1, D2, dc2⟩) 25))
    have HMK := Lib.hid hmk
    have hn1 := hmk.n1
    have hn7 := hmk.n7
    have he11 := hmk.e11
    have lT1 : w.heap.size < w1.heap.size := by omega
    clear hrl hg1 ht1 hb1 hmk
    obtain ⟨g0, g1⟩ := gdCells HQ.out
    have HFD := Lib.hid (show (#[.slice D1 d.k.length dc1, .slice D2 d.e.length dc2] : Array Value) = gd d ⟨D1, dc1, D2, dc2⟩ from rfl)
    go_wp2_with (with_reducible (show wpList _ _ _ (⟨none, .store 25 (.tmp 4) (.tmp 29), _, _, _, _⟩ :: _) _ _); refine wpList_store_row (o := ⟨none, .store 25 (.tmp 4) (.tmp 29), _, _, _, _⟩) rfl 25 (.tmp 4) (.tmp 29) rfl w1.heap.size (gd d ⟨D1, dc1, D2, dc2⟩) rfl rfl 25 zD (heap_alloc_new _ _) (info25 _ _) rfl (gd_one _ _) ?_; rw [new_set])
    have lQ : w1.heap.size < (w1.alloc (.cells (gd d ⟨D1, dc1, D2, dc2⟩) 25)).heap.size := row_lt HQ.out
    generalize w1.alloc (.cells (gd d ⟨D1, dc1, D2, dc2⟩) 25) = WA at *
    generalize w1.heap.size = Q at *
    rw [HFD.out]
    refine (T.estate_cap w.heap.size d ⟨D1, dc1, D2, dc2⟩ WA HT1.out (by omega) hn1 hn7).mono ?_
    rintro e w2 ⟨a, ⟨A, vc⟩, rfl, hme, hel, hg2, ht2, hcap⟩
    have hcap : a.e.length ≤ vc := hcap
    have hb2 : Below w.heap.size w w2 := HB1.out.grown hg2 HB1.out.size (fun k e => by cases e; exact Nat.le_refl _)
    have hs2 : w.heap.size + 1 ≤ w2.heap.size := by have := hg2.size; omega
    have hq2 := (hg2.block _ lQ (fun e => by injection e; omega)).trans HQ.out
    have hbe := box_below w2 (.cells (ge a ⟨A, vc⟩) 28)
    have HQ2 := Lib.hid ((hbe.block _ (row_lt hq2)).trans hq2)
    have HD2 := Lib.hid ((HDL.out.grown hg2 (fun g e => by cases e; omega)).below hbe)
    have HR := Lib.hid (heap_alloc_new w2 (.cells (ge a ⟨A, vc⟩) 28))
    have HEL := Lib.hid (Row.below (hel.base (show w.heap.size + 1 ≤ _ by omega)) hbe)
    have HB2 := Lib.hid (hb2.trans (hbe.mono hb2.size))
    have HT2 := Lib.hid (tape_new2 ht2 (.cells (ge a ⟨A, vc⟩) 28))
    have HME := Lib.hid hme
    have ha1 := hme.ok.n1
    have ha4 := hme.n4
    have ha15 := hme.m15
    have hRs : Q < w2.heap.size := row_lt hq2
    clear hel hg2 ht2 hb2 hme HB1 HT1 HBX HTP hbe hq2 HQ HDL g0 g1
    obtain ⟨g0, g1⟩ := gdCells HQ2.out
    obtain ⟨c0, c1⟩ := geCells HR.out
    have HFE := Lib.hid (show (#[.int .i64 a.n, .slice A a.e.length vc] : Array Value) = ge a ⟨A, vc⟩ from rfl)
    go_wp2_with (with_reducible (show wpList _ _ _ (⟨none, .store 28 (.tmp 5) (.tmp 32), _, _, _, _⟩ :: _) _ _); refine wpList_store_row (o := ⟨none, .store 28 (.tmp 5) (.tmp 32), _, _, _, _⟩) rfl 28 (.tmp 5) (.tmp 32) rfl w2.heap.size (ge a ⟨A, vc⟩) rfl rfl 28 zE (heap_alloc_new _ _) (infoEs _ _) rfl (ge_one _ _) ?_; rw [new_set])
    have lR : w2.heap.size < (w2.alloc (.cells (ge a ⟨A, vc⟩) 28)).heap.size := row_lt HR.out
    generalize w2.alloc (.cells (ge a ⟨A, vc⟩) 28) = WB at *
    generalize w2.heap.size = R at *
    have lQB : Q < WB.heap.size := row_lt HQ2.out
    have HDO := Lib.hid HMK.out.ok
    have HEO := Lib.hid HME.out.ok
    obtain ⟨n, hn⟩ : ∃ n : Nat, a.n = (n : Int) := ⟨a.n.toNat, by omega⟩
    have hn6 : n ≤ 16 := by omega
    have HAN := Lib.hid hn
    clear hn
    refine (next_any w.heap.size 3 WB HT2.out (by omega) (by omega)).mono ?_
    rintro e WC ⟨zc, zc0, zc1, rfl, hgc, htc⟩
    obtain ⟨c, rfl⟩ : ∃ z : Nat, zc = z := ⟨zc.toNat, by omega⟩
    have hc3 : c < 3 := by omega
    have hqd := (hgc.block _ lQB (fun e => by injection e; omega)).trans HQ2.out
    have hqe := (hgc.block _ lR (fun e => by injection e; omega)).trans HR.out
    have hdd := HD2.out.grown hgc (fun g e => by cases e; omega)
    have hee := Row.grown HEL.out hgc (fun g e => by cases e; omega)
    have hbb := HB2.out.grown hgc HB2.out.size (fun k e => by cases e; exact Nat.le_refl _)
    have HKP := Lib.hid (fun w' (hw : Below WC.heap.size WC w') => (⟨gdCells ((hw.block _ (row_lt hqd)).trans hqd), geCells ((hw.block _ (row_lt hqe)).trans hqe)⟩ : (w'.cell? ⟨Q, 0, none⟩ = some (.slice D1 d.k.length dc1) ∧ w'.cell? ⟨Q, 1, none⟩ = some (.slice D2 d.e.length dc2)) ∧ (w'.cell? ⟨R, 0, none⟩ = some (.int .i64 a.n) ∧ w'.cell? ⟨R, 1, none⟩ = some (.slice A a.e.length vc))))
    have HDF := Lib.hid (fun wr (h : Below WC.heap.size WC wr) => (hdd.below h).base (Nat.zero_le _))
    have HEF := Lib.hid (fun wr (h : Below WC.heap.size WC wr) => Row.base (B' := 0) (Row.below hee h) (Nat.zero_le _))
    have HBF := Lib.hid (fun wr (h : Below WC.heap.size WC wr) => hbb.trans (h.mono hbb.size))
    clear zc0 zc1 hgc htc g0 g1 c0 c1 HQ2 HR HD2 HEL HB2 HT2 lQB lR lQ hqd hqe hdd hee hbb
    obtain ⟨⟨g0, g1⟩, ⟨c0, c1⟩⟩ := HKP.out _ (Below.refl _ _)
    have hlen := exL_len d a n (c : Int) (d.k.length + 1)
    have hall := fun w' (hw : Below WC.heap.size WC w') => xall_any d ⟨D1, dc1, D2, dc2⟩ a ⟨A, vc⟩ n (c : Int) w' (HDF.out _ hw) HDO.out (HEF.out _ hw) HEO.out HAN.out ⟨by omega, by omega⟩
    unfold AlPost at hall
    have HXAT := Lib.hid (fun k T hk h => exL_at (d := d) (a := a) (n := n) (c := (c : Int)) (k := k) (T := T) (m := d.k.length + 1) hk h)
    have HXS := Lib.hid (fun k T h => exL_some (d := d) (a := a) (n := n) (c := (c : Int)) (k := k) (T := T) h)
    have HXN := Lib.hid (fun k h => exL_none (d := d) (a := a) (n := n) (c := (c : Int)) (k := k) h)
    have HXL := Lib.hid (exL_len d a n (c : Int))
    have HX0 := Lib.hid (show exL d a n (c : Int) 0 = [] from rfl)
    have HFS := Lib.hid (fun p T h => first_some (d := d) (a := a) HEO.out HAN.out (c := (c : Int)) (p := p) (T := T) h)
    have HFN := Lib.hid (fun p h => first_none (d := d) (a := a) HEO.out HAN.out (c := (c : Int)) (p := p) h)
    have HT44 := Lib.hid (fun p T (h : siF d a n (c : Int) p = some T) => (show T ≤ 44 from by
      rcases (siF_is h).1 with ⟨j, h1, h2⟩ | ⟨j, h1, h2⟩
      · have := HME.out.t j h1
        omega
      · have := HMK.out.t j h1
        omega))
    generalize hX : exL d a n (c : Int) = X0 at *
    obtain ⟨F, hFF⟩ : ∃ F, X0 (d.k.length + 1) = F := ⟨_, rfl⟩
    rw [hFF] at hall hlen
    have HFF := Lib.hid hFF
    obtain ⟨f, hf⟩ : ∃ f, F.length = f := ⟨_, rfl⟩
    have HF := Lib.hid hf
    rw [hf] at hall hlen
    have HALL := Lib.hid hall
    clear hall hFF hf hX
    go_wp2_with (go_at_call 27; rw [HFD.out, HFE.out]; refine (HALL.out _ (Below.refl _ _)).mono ?_; rintro e w1 ⟨X, xc, rfl, hown, hb1⟩; have B1 := Lib.hid hb1; have RX := Lib.hid ((row_of_own hown).base (Nat.zero_le _)); clear hb1 hown g0 g1 c0 c1)
    go_loopw [9, 10] (fun av pv wr => ∃ k : Nat, k ≤ d.k.length + 1 ∧ av = .int .i64 ((X0 k).length : Int) ∧ pv = .int .i64 ((k : Int) - 1) ∧ Below w1.heap.size w1 wr) (fun _ pv _ => ((d.k.length : Int) - intOf pv).toNat)
    case atStart => exact ⟨0, by omega, by rw [HX0.out]; rfl, rfl, Below.refl _ _⟩
    case round =>
      obtain ⟨k, hk, rfl, rfl, hbl⟩ := hrel
      rename World => wp
      have HBP := Lib.hid hbl
      have BP := Lib.hid (B1.out.trans (hbl.mono B1.out.size))
      have hxl := HXL.out k
      clear hbl
      obtain ⟨⟨g0, g1⟩, ⟨c0, c1⟩⟩ := HKP.out _ BP.out
      by_cases hlt : k < d.k.length + 1
      · have HXA := Lib.hid (fun T h => HXAT.out k T hlt h)
        have HXS1 := Lib.hid (HXS.out k)
        have HXN1 := Lib.hid (HXN.out k)
        obtain ⟨q, hq⟩ : ∃ q : Int, (k : Int) - 1 = q := ⟨_, rfl⟩
        have HQQ := Lib.hid hq
        have hq1 : -1 ≤ q := by omega
        rw [hq]
        have dq : decide (q < (d.k.length : Int)) = true := decide_eq_true (by omega)
        have qw : IntKind.i64.wrap (q + 1) = (k : Int) := by rw [show q + 1 = (k : Int) by omega]; exact IntWalk.i64_in _ (by omega)
        have HFS1 := Lib.hid (HFS.out q)
        have HFN1 := Lib.hid (HFN.out q)
        have HT1 := Lib.hid (HT44.out q)
        have HWHY := Lib.hid (fun w' (hw : Below WC.heap.size WC w') => xwhy_any d ⟨D1, dc1, D2, dc2⟩ a ⟨A, vc⟩ n (c : Int) q w' (HDF.out _ hw) HDO.out (HEF.out _ hw) HEO.out HAN.out ⟨by omega, by omega⟩ hq1)
        have HWHR := Lib.hid (fun (t : Nat) w' (hw : Below WC.heap.size WC w') => xwher_any a ⟨A, vc⟩ (c : Int) (t : Int) n w' (HEF.out _ hw) HEO.out HAN.out ⟨by omega, by omega⟩ hcap)
        have HLNK := Lib.hid (fun (P t : Nat) (hP : P < n) w' (hw : Below WC.heap.size WC w') => rlinked_any a ⟨A, vc⟩ (P : Int) (t : Int) w' (HEF.out _ hw) HEO.out ⟨by omega, by rw [HAN.out]; omega⟩ hcap)
        have HMAY := Lib.hid (fun (x P t : Nat) (hP : P < n) w' (hw : Below WC.heap.size WC w') => rmay_any d ⟨D1, dc1, D2, dc2⟩ a ⟨A, vc⟩ x P t w' (HDF.out _ hw) HDO.out (HEF.out _ hw) HEO.out (by rw [HAN.out]; omega) hcap)
        -- the search for the first time
        obtain ⟨o, ho⟩ : ∃ o, siF d a n (c : Int) q = o := ⟨_, rfl⟩
        rw [hq] at HXS1 HXN1 HXA
        rw [ho] at HXS1 HXN1 HXA HFS1 HFN1 HT1
        have HO := Lib.hid ho
        obtain ⟨fn, hfn⟩ : ∃ fn : Nat → Int, fn = fT o := ⟨_, rfl⟩
        have HFN0 := Lib.hid (show fn 0 = -1 by rw [hfn]; cases o <;> rfl)
        have HFX := Lib.hid (fun (t : Nat) (h1 : fn t = -1) (h2 : ∀ T, o = some T → t ≤ T + 1) => (show fn (t + 1) = (if xwB d a n (c : Int) q t then (t : Int) else -1) ∧ (∀ T, o = some T → t + 1 ≤ T + 1) from by
          cases o with
          | none =>
            rw [HFN1.out rfl t, hfn]
            exact ⟨rfl, fun T h => by cases h⟩
          | some T =>
            have hfT : fn t = if T < t then (T : Int) else -1 := by rw [hfn]; rfl
            have hfT1 : fn (t + 1) = if T < t + 1 then (T : Int) else -1 := by rw [hfn]; rfl
            have hnt : ¬ T < t := fun h => by rw [hfT, if_pos h] at h1; omega
            obtain ⟨h3, h4⟩ := HFS1.out T rfl
            rw [hfT1]
            refine ⟨?_, fun T' h => by cases h; omega⟩
            by_cases e : T = t
            · rw [if_pos (by omega), ← e, h3]; rfl
            · rw [if_neg (by omega), h4 t (by omega)]; rfl))
        obtain ⟨rs, hrs⟩ : ∃ rs : Int, rs = rT o := ⟨_, rfl⟩
        have HEND := Lib.hid (fun (t : Nat) (h : t = 45 ∨ fn t ≠ -1) => (show fn t = rs from by
          cases o with
          | none => rw [hfn, hrs]; rfl
          | some T =>
            have hfT : fn t = if T < t then (T : Int) else -1 := by rw [hfn]; rfl
            have hT := HT1.out T rfl
            rw [hfT, hrs]
            show _ = (T : Int)
            rcases h with h | h
            · rw [if_pos (by omega)]
            · by_cases e : T < t
              · rw [if_pos e]
              · rw [hfT, if_neg e] at h; exact absurd rfl h))
        have HFV := Lib.hid (fun t : Nat => (show fn t = -1 ∨ 0 ≤ fn t by
          rw [hfn]
          cases o with
          | none => exact .inl rfl
          | some T =>
            show (if T < t then (T : Int) else -1) = -1 ∨ 0 ≤ (if T < t then (T : Int) else -1)
            split
            · right; omega
            · exact .inl rfl))
        clear hfn hq ho
        go_upto_block 2 with fail
        clear g0 g1 c0 c1
        go_cut [11, 12, 14, 15, 16] from 51 to 93 (fun s11 s12 s14 s15 s16 wx => s11 = .int .i64 rs ∧ Below wp.heap.size wp wx)
        case first =>
          -- CUT
          go_wp2_with fail
          go_loopw [11, 12] (fun fv tv wr => ∃ t : Nat, t ≤ 45 ∧ tv = .int .i64 (t : Int) ∧ fv = .int .i64 (fn t) ∧ (∀ T, o = some T → t ≤ T + 1) ∧ Below wp.heap.size wp wr) (fun _ tv _ => 45 - (intOf tv).toNat)
          case atStart => exact ⟨0, by omega, rfl, by rw [HFN0.out], fun T _ => by omega, Below.refl _ _⟩
          case round =>
            obtain ⟨t, ht, rfl, rfl, hto, hbl⟩ := hrel
            rename World => wt
            have HBT := Lib.hid hbl
            have BT := Lib.hid (BP.out.trans (hbl.mono BP.out.size))
            have HTO := Lib.hid hto
            clear hbl hto
            by_cases h45 : t < 45
            · have d1 : decide ((t : Int) < 45) = true := decide_eq_true (by omega)
              rcases HFV.out t with hft | hft
              · obtain ⟨hf1, hf2⟩ := HFX.out t hft HTO.out
                have HF1 := Lib.hid hf1
                have HF2 := Lib.hid hf2
                rw [hft]
                clear hft hf1 hf2
                obtain ⟨⟨g0, g1⟩, ⟨c0, c1⟩⟩ := HKP.out _ BT.out
                have hwr := HWHR.out t wt BT.out
                unfold SmPost at hwr
                have hai := any_idx (wB a (c : Int) (t : Int)) (fun P => xB d a q P t) n
                have HAT := Lib.hid (fun j (hj : j < cnt (wB a (c : Int) (t : Int)) n) => (at_idx hj).1)
                have HAI := Lib.hid (show anyB (fun i => xB d a q ((idx (wB a (c : Int) (t : Int)) n).getD i 0) t) (cnt (wB a (c : Int) (t : Int)) n) = xwB d a n (c : Int) q t from hai)
                have hmn := cnt_le (wB a (c : Int) (t : Int)) n
                generalize cnt (wB a (c : Int) (t : Int)) n = m at *
                generalize idx (wB a (c : Int) (t : Int)) n = LP at *
                have HWR := Lib.hid hwr
                clear hwr hai
                go_wp2_with (go_at_call 28; rw [HFE.out]; (with_reducible refine HWR.out.mono ?_); rintro e w8 ⟨Y, yc, rfl, hown, hb8⟩; have B8 := Lib.hid (HBT.out.trans (hb8.mono HBT.out.size)); have B8C := Lib.hid (BT.out.trans (hb8.mono BT.out.size)); have RY := Lib.hid ((row_of_own hown).base (Nat.zero_le _)); clear hown hb8 g0 g1 c0 c1)
                go_loopw [11, 64] (fun fv ii wx => ∃ j : Nat, j ≤ m ∧ ii = .int .i64 (j : Int) ∧ fv = .int .i64 (if anyB (fun i => xB d a q (LP.getD i 0) t) j then (t : Int) else -1) ∧ Below w8.heap.size w8 wx) (fun _ ii _ => m - (intOf ii).toNat)
                case atStart => exact ⟨0, by omega, rfl, rfl, Below.refl _ _⟩
                case round =>
                  obtain ⟨j, hj, rfl, rfl, hbl⟩ := hrel
                  rename World => wx
                  have HBX := Lib.hid hbl
                  have BX := Lib.hid (B8C.out.trans (hbl.mono B8C.out.size))
                  clear hbl
                  by_cases hjm : j < m
                  · obtain ⟨b, off, hY, -, -, y0⟩ := (RY.out.below HBX.out).int hjm
                    subst hY
                    have hP := HAT.out j hjm
                    have hany1 : anyB (fun i => xB d a q (LP.getD i 0) t) (j + 1) = (anyB (fun i => xB d a q (LP.getD i 0) t) j || xB d a q (LP.getD j 0) t) := rfl
                    generalize anyB (fun i => xB d a q (LP.getD i 0) t) j = ab at *
                    generalize LP.getD j 0 = P at *
                    have i0 : (0 : Int) ≤ (j : Int) := by omega
                    have i1 : (j : Int) < (m : Int) := by omega
                    have HLK1 := Lib.hid (HLNK.out P t hP)
                    obtain ⟨⟨g0, g1⟩, ⟨c0, c1⟩⟩ := HKP.out _ BX.out
                    by_cases hq0 : q = -1
                    · have e1 : (q == -1) = true := beq_iff_eq.2 hq0
                      have e2 : decide ((0 : Int) ≤ q) = false := decide_eq_false (by omega)
                      have hx : xB d a q P t = (lkA a.e (P : Int) (t : Int)).isSome := if_pos hq0
                      rw [hx] at hany1
                      have HMY1 := Lib.hid True.intro
                      generalize (lkA a.e (P : Int) (t : Int)).isSome = lb at *
                      have HANY1 := Lib.hid hany1
                      clear hany1 hx hP hq0
                      cases lb with
                      | true =>
                        go_wp2_with (first
                          | (go_at_call 29; rw [HFE.out]; (with_reducible refine (HLK1.out _ BX.out).mono ?_); rintro e wl ⟨⟨z, rfl⟩, hbl⟩; have BL := Lib.hid (HBX.out.trans (hbl.mono HBX.out.size)); have BLC := Lib.hid (BX.out.trans (hbl.mono BX.out.size)); clear hbl g0 g1 c0 c1; obtain ⟨⟨g0, g1⟩, ⟨c0, c1⟩⟩ := HKP.out _ BLC.out)
                          | (go_at_call 14; rw [HFD.out, HFE.out]; (with_reducible refine (HMY1.out _ BLC.out).mono ?_); rintro e wm ⟨rfl, hbm⟩; have BM := Lib.hid (BL.out.trans (hbm.mono BL.out.size)); clear hbm g0 g1 c0 c1))
                        exact ⟨⟨j + 1, by omega, by go_num, by rw [HANY1.out]; cases ab <;> rfl, BL.out⟩, by simp [intOf]; omega⟩
                      | false =>
                        go_wp2_with (first
                          | (go_at_call 29; rw [HFE.out]; (with_reducible refine (HLK1.out _ BX.out).mono ?_); rintro e wl ⟨⟨z, rfl⟩, hbl⟩; have BL := Lib.hid (HBX.out.trans (hbl.mono HBX.out.size)); have BLC := Lib.hid (BX.out.trans (hbl.mono BX.out.size)); clear hbl g0 g1 c0 c1; obtain ⟨⟨g0, g1⟩, ⟨c0, c1⟩⟩ := HKP.out _ BLC.out)
                          | (go_at_call 14; rw [HFD.out, HFE.out]; (with_reducible refine (HMY1.out _ BLC.out).mono ?_); rintro e wm ⟨rfl, hbm⟩; have BM := Lib.hid (BL.out.trans (hbm.mono BL.out.size)); clear hbm g0 g1 c0 c1))
                        exact ⟨⟨j + 1, by omega, by go_num, by rw [HANY1.out]; rw [Bool.or_false], BL.out⟩, by simp [intOf]; omega⟩
                    · obtain ⟨x, hxq⟩ : ∃ x : Nat, q = (x : Int) := ⟨q.toNat, by omega⟩
                      have e1 : (q == -1) = false := beq_eq_false_iff_ne.2 hq0
                      have e2 : decide ((0 : Int) ≤ q) = true := decide_eq_true (by omega)
                      have hx : xB d a q P t = mayB d a x P t := by unfold xB; rw [if_neg hq0, show q.toNat = x by omega]
                      rw [hx] at hany1
                      have hmy := HMAY.out x P t hP
                      rw [← hxq] at hmy
                      generalize mayB d a x P t = mb at *
                      have HMY1 := Lib.hid hmy
                      generalize (lkA a.e (P : Int) (t : Int)).isSome = lb at *
                      have HANY1 := Lib.hid hany1
                      clear hany1 hx hP hq0 hxq hmy
                      cases mb with
                      | true =>
                        go_wp2_with (first
                          | (go_at_call 29; rw [HFE.out]; (with_reducible refine (HLK1.out _ BX.out).mono ?_); rintro e wl ⟨⟨z, rfl⟩, hbl⟩; have BL := Lib.hid (HBX.out.trans (hbl.mono HBX.out.size)); have BLC := Lib.hid (BX.out.trans (hbl.mono BX.out.size)); clear hbl g0 g1 c0 c1; obtain ⟨⟨g0, g1⟩, ⟨c0, c1⟩⟩ := HKP.out _ BLC.out)
                          | (go_at_call 14; rw [HFD.out, HFE.out]; (with_reducible refine (HMY1.out _ BLC.out).mono ?_); rintro e wm ⟨rfl, hbm⟩; have BM := Lib.hid (BL.out.trans (hbm.mono BL.out.size)); clear hbm g0 g1 c0 c1))
                        exact ⟨⟨j + 1, by omega, by go_num, by rw [HANY1.out]; cases ab <;> rfl, BM.out⟩, by simp [intOf]; omega⟩
                      | false =>
                        go_wp2_with (first
                          | (go_at_call 29; rw [HFE.out]; (with_reducible refine (HLK1.out _ BX.out).mono ?_); rintro e wl ⟨⟨z, rfl⟩, hbl⟩; have BL := Lib.hid (HBX.out.trans (hbl.mono HBX.out.size)); have BLC := Lib.hid (BX.out.trans (hbl.mono BX.out.size)); clear hbl g0 g1 c0 c1; obtain ⟨⟨g0, g1⟩, ⟨c0, c1⟩⟩ := HKP.out _ BLC.out)
                          | (go_at_call 14; rw [HFD.out, HFE.out]; (with_reducible refine (HMY1.out _ BLC.out).mono ?_); rintro e wm ⟨rfl, hbm⟩; have BM := Lib.hid (BL.out.trans (hbm.mono BL.out.size)); clear hbm g0 g1 c0 c1))
                        exact ⟨⟨j + 1, by omega, by go_num, by rw [HANY1.out]; rw [Bool.or_false], BM.out⟩, by simp [intOf]; omega⟩
                  · obtain rfl : j = m := by omega
                    rw [HAI.out]
                    generalize xwB d a n (c : Int) q t = xb at *
                    go_wp2_with fail
                    exact ⟨⟨t + 1, by omega, by go_num, by rw [HF1.out], HF2.out, B8.out.trans (HBX.out.mono B8.out.size)⟩, by simp [intOf]; omega⟩
              · have d2 : decide (fn t < 0) = false := decide_eq_false (by omega)
                have HE := Lib.hid (HEND.out t (.inr (by omega)))
                generalize fn t = ft at *
                go_wp2_with fail
                go_meet
                case rel => exact ⟨by rw [HE.out], HBT.out⟩
            · have d1 : decide ((t : Int) < 45) = false := decide_eq_false (by omega)
              have HE := Lib.hid (HEND.out t (.inl (by omega)))
              generalize fn t = ft at *
              go_wp2_with fail
              go_meet
              case rel => exact ⟨by rw [HE.out], HBT.out⟩
          -- END
        case rest =>
        obtain ⟨rfl, hbw⟩ := hcut
        rename World => wq
        have BQ := Lib.hid (BP.out.trans (hbw.mono BP.out.size))
        have HBQ := Lib.hid (HBP.out.trans (hbw.mono HBP.out.size))
        clear hbw HFX HEND HFV HFN0 HWHR HLNK HMAY
        obtain ⟨⟨g0, g1⟩, ⟨c0, c1⟩⟩ := HKP.out _ BQ.out
        cases o with
        | none =>
          have hrs' : rs = -1 := hrs
          subst hrs'
          have HN1 := Lib.hid (HXN1.out rfl)
          have HW1 := Lib.hid (show Calls Tryz.prog 30 #[.agg (gd d ⟨D1, dc1, D2, dc2⟩), .agg (ge a ⟨A, vc⟩), .int .i64 (c : Int), .int .i64 q] wq fun e w' => e = .returned (.tuple #[.agg (lkc none 0 0 0 0 0 0 none 0 0), .bool false]) ∧ Below wq.heap.size wq w' from (HWHY.out wq BQ.out).mono fun e w' h => by
            rcases h with ⟨-, h1, h2⟩ | ⟨T, P, lk, gk, L, W, cc, A', k', -, h2, -⟩
            · exact ⟨h1, h2⟩
            · have := HO.out.symm.trans h2.si
              cases this)
          clear HWHY hrs
          go_wp2_with (first
            | (go_at_call 30; rw [HFD.out, HFE.out]; (with_reducible refine HW1.out.mono ?_); rintro e w8 ⟨rfl, hb8⟩; have B8 := Lib.hid (HBQ.out.trans (hb8.mono HBQ.out.size)); have hbn := box_below w8 (.cells (lkc none 0 0 0 0 0 0 none 0 0) 66); have B9 := Lib.hid (B8.out.trans (hbn.mono B8.out.size)); clear hb8 hbn g0 g1 c0 c1)
            | (with_reducible (show wpList _ _ _ (⟨none, .store 66 (.tmp 17) (.tmp 102), _, _, _, _⟩ :: _) _ _); refine wpList_store_row (o := ⟨none, .store 66 (.tmp 17) (.tmp 102), _, _, _, _⟩) rfl 66 (.tmp 17) (.tmp 102) rfl w8.heap.size (lkc none 0 0 0 0 0 0 none 0 0) rfl rfl 66 #[.slice none 0 0, .int .i64 0, .int .i64 0, .int .i64 0, .int .i64 0, .slice none 0 0] (heap_alloc_new _ _) (info66 _ _ _ _ _ _ _ _ _ _) rfl (lkc_one _ _ _ _ _ _ _ _ _ _) ?_; rw [new_set]))
          exact ⟨⟨k + 1, by omega, by rw [HN1.out], congrArg (Value.int .i64) (by omega), B9.out⟩, by have := HQQ.out; simp [intOf]; omega⟩
        | some T =>
          have hrs' : rs = (T : Int) := hrs
          subst hrs'
          clear hrs
          obtain ⟨ha1, ha2⟩ := HXA.out T rfl
          have HN1 := Lib.hid (HXS1.out T rfl)
          have hff := HFF.out
          rw [hff] at ha1 ha2
          rw [HF.out] at ha1
          obtain ⟨al, hal⟩ : ∃ al, (X0 k).length = al := ⟨_, rfl⟩
          have HAL := Lib.hid hal
          rw [hal] at ha1 ha2 hxl ⊢
          have HA2 := Lib.hid ha2
          have hT44 := HT1.out T rfl
          have hcell := fun w' (hb : Below w1.heap.size w1 w') => (RX.out.below hb).xp (show al < f from ha1)
          rw [ha2] at hcell
          have HCL := Lib.hid hcell
          obtain ⟨b, off, hA, y0, y1⟩ := hcell wq HBQ.out
          subst hA
          simp only at y0 y1
          have d0 : decide ((f : Int) ≤ (al : Int)) = false := decide_eq_false (by omega)
          have dT : decide ((T : Int) < 0) = false := decide_eq_false (by omega)
          have i0 : (0 : Int) ≤ (al : Int) := by omega
          have i1 : (al : Int) < (f : Int) := by omega
          have hwa : IntKind.i64.wrap ((al : Int) + 1) = (al : Int) + 1 := IntWalk.i64_in _ (by omega)
          have HW1 := Lib.hid (show Calls Tryz.prog 30 #[.agg (gd d ⟨D1, dc1, D2, dc2⟩), .agg (ge a ⟨A, vc⟩), .int .i64 (c : Int), .int .i64 q] wq fun e w' => ∃ (P : Nat) (lk gk : Int) (L : List Nat) (W : Option Addr) (cc : Nat) (A' : Option Addr) (k' : Nat), e = .returned (.tuple #[.agg (lkc W (wyA a.e (c : Int) (T : Int) (P : Int)).length cc (P : Int) (T : Int) lk gk A' L.length k'), .bool true]) ∧ Lkp d a n (c : Int) q T P lk gk L ∧ Row w' 0 1 W (wyA a.e (c : Int) (T : Int) (P : Int)).length (iv (wyA a.e (c : Int) (T : Int) (P : Int))) ∧ L.length ≤ k' ∧ Row w' 0 1 A' L.length (iv L) ∧ Below wq.heap.size wq w' from (HWHY.out wq BQ.out).mono fun e w' h => by
            rcases h with ⟨h1, -⟩ | ⟨T', P, lk, gk, L, W, cc, A', k', h1, h2, h3⟩
            · have := HO.out.symm.trans h1
              cases this
            · have h4 := HO.out.symm.trans h2.si
              cases h4
              exact ⟨P, lk, gk, L, W, cc, A', k', h1, h2, h3⟩)
          clear HWHY ha1 ha2 hal hff hcell
          go_upto_region 32 with (first
            | (go_at_call 30; rw [HFD.out, HFE.out]; (with_reducible refine HW1.out.mono ?_); rintro e w8 ⟨P, lk, gk, L, W, cc, A', k', rfl, hlkp, hrw, hlk', hra, hb8⟩; have HLKP := Lib.hid hlkp; have HLK' := Lib.hid hlk'; obtain ⟨nw, hnw⟩ : ∃ nw, (wyA a.e (c : Int) (T : Int) (P : Int)).length = nw := ⟨_, rfl⟩; obtain ⟨ln, hln⟩ : ∃ ln, L.length = ln := ⟨_, rfl⟩; have HNW := Lib.hid hnw; have HLN := Lib.hid hln; rw [hnw, hln]; have hbn := box_below w8 (.cells (lkc W nw cc (P : Int) (T : Int) lk gk A' ln k') 66); have N9 := Lib.hid (heap_alloc_new w8 (.cells (lkc W nw cc (P : Int) (T : Int) lk gk A' ln k') 66)); have hb9 := hb8.trans (hbn.mono hb8.size); have B9 := Lib.hid (HBQ.out.trans (hb9.mono HBQ.out.size)); have C9 := Lib.hid (BQ.out.trans (hb9.mono BQ.out.size)); have RW := Lib.hid (hrw.below hbn); have RA := Lib.hid (hra.below hbn); clear hlkp hrw hlk' hra hb8 hbn hb9 hnw hln g0 g1 c0 c1 y0 y1)
            | (with_reducible (show wpList _ _ _ (⟨none, .store 66 (.tmp 19) (.tmp 125), _, _, _, _⟩ :: _) _ _); refine wpList_store_row (o := ⟨none, .store 66 (.tmp 19) (.tmp 125), _, _, _, _⟩) rfl 66 (.tmp 19) (.tmp 125) rfl w8.heap.size (lkc W nw cc (P : Int) (T : Int) lk gk A' ln k') rfl rfl 66 #[.slice none 0 0, .int .i64 0, .int .i64 0, .int .i64 0, .int .i64 0, .slice none 0 0] (heap_alloc_new _ _) (info66 _ _ _ _ _ _ _ _ _ _) rfl (lkc_one _ _ _ _ _ _ _ _ _ _) ?_; rw [new_set]))
          have N10 := N9.out
          generalize w8.alloc (.cells (lkc W nw cc (P : Int) (T : Int) lk gk A' ln k') 66) = W9 at *
          generalize w8.heap.size = G9 at *
          obtain ⟨⟨g0, g1⟩, ⟨c0, c1⟩⟩ := HKP.out _ C9.out
          obtain ⟨b2, off2, e2, y0, y1⟩ := HCL.out W9 B9.out
          cases e2
          (try simp only at y0 y1)
          obtain ⟨l0, l1, l2, l3, l4, l5⟩ := lkcCells N10
          have hpv := xprov_any d ⟨D1, dc1, D2, dc2⟩ a ⟨A, vc⟩ n (c : Int) q T P lk gk L W cc A' k' W9.drew (HDF.out _ C9.out.drew) HDO.out (HEF.out _ C9.out.drew) HEO.out HAN.out ⟨by omega, by omega⟩ hq1 hcap HLKP.out (RW.out.below (Below.refl _ _).drew) HLK'.out (RA.out.below (Below.refl _ _).drew)
          rw [HNW.out, HLN.out] at hpv
          have HPV := Lib.hid hpv
          clear N10 hpv
          go_still_tail 11, (by kernel_rfl)
          change wpList _ _ _ _ _ W9.drew
          have HFL := Lib.hid (show (#[.slice W nw cc, .int .i64 (P : Int), .int .i64 (T : Int), .int .i64 lk, .int .i64 gk, .slice A' ln k'] : Array Value) = lkc W nw cc (P : Int) (T : Int) lk gk A' ln k' from rfl)
          have B9D := Lib.hid (B9.out.drew)
          go_wp2_with (go_at_call 31; rw [HFD.out, HFE.out, HFL.out]; refine HPV.out.mono ?_; rintro e wz ⟨rfl, hbz⟩; have BZ := Lib.hid (B9D.out.trans (hbz.mono B9D.out.size)); clear hbz g0 g1 c0 c1 y0 y1 l0 l1 l2 l3 l4 l5)
          exact ⟨⟨k + 1, by omega, by rw [HN1.out, List.length_append, HAL.out]; rfl, congrArg (Value.int .i64) (by omega), BZ.out⟩, by have := HQQ.out; simp [intOf]; omega⟩
      · obtain rfl : k = d.k.length + 1 := by omega
        have hff := HFF.out
        rw [hff, HF.out]
        have dq : decide ((((d.k.length + 1 : Nat) : Int) - 1) < (d.k.length : Int)) = false := decide_eq_false (by omega)
        have e1 : ((f : Int) == (f : Int)) = true := by simp
        obtain ⟨q, hq⟩ : ∃ q : Int, (((d.k.length + 1 : Nat) : Int) - 1) = q := ⟨_, rfl⟩
        rw [hq] at dq
        rw [hq]
        clear hq hff
        go_wp2_with (go_at_call 26; refine (xawake_any _).mono ?_; rintro e w9 ⟨rfl, hb9⟩; have HB9 := Lib.hid ((HBF.out _ BP.out).trans (hb9.mono (HBF.out _ BP.out).size)); clear hb9)
        go_ret
        exact ⟨by first | rfl | simp, HB9.out⟩

/-! ### THE ROW's STEP: WRITTEN OUT: LEAVE IT -/
set_option maxRecDepth 100000 in
theorem lifted (os : Os) (started : os.Started) (H : Type) (enc : TypeId × Value → H) :
    ReturnsInHanded {} Tryz.checked os 4 .any (Rows.exposureReadersSpec.pre6 enc Tryz.prog Tryz.f4 Rows.exposureReadersRow.domain false) (Rows.exposureReadersSpec.post enc Tryz.prog Tryz.f4 false true false false) := by
  refine returnsInHanded_of_change (C := Tryz.checked) own started (by kernel_rfl) Tryz.func4
    (ChangeSpec.witness6 (enc := enc) (C := Tryz.checked) false ⟨#[], #[.slice none 0 0], []⟩ 8 (by kernel_rfl) (by kernel_rfl) (by kernel_rfl) (by kernel_rfl)) ?_
  intro W base args ds gs before hval0 hW hcnd _
  have hval : ∀ (j : Nat) t v, Tryz.f4.params[j]? = some t → args[j]? = some v → Value.okWide Tryz.prog W .any base t v := hval0
  have hW' := hW
  obtain ⟨p, q, hA0, hV, rfl, hfz, hnd⟩ := hW
  have hA : DataW.TrodAll enc Tryz.prog W 0 (fun _ => true) true Tryz.f4.params.toList args.toList ds p := hA0
  rw [Tryz.params4] at hA hval
  obtain ⟨v0, vs0, d0, ds0, p0, q0, hargs, rfl, rfl, h0, r0⟩ := trodAll_cons hA
  obtain ⟨rfl, rfl, rfl⟩ := trodAll_nil r0
  obtain rfl : args = #[v0] := by cases args; simp_all
  obtain ⟨rfl, rfl⟩ := trodVars_none hV
  obtain ⟨a0, len0, cap0, rfl⟩ := okWide_slice Tryz.underlying22 (hval 0 22 v0 rfl rfl)
  have k0 := h0
  have lt0 : ∀ x ∈ p0, x.block < W.heap.size := by obtain ⟨m, hm⟩ := k0; exact DataW.trod_lt m _ _ _ hm
  obtain ⟨z0, w0⟩ : ∃ zs, IsRow .i64 W a0 len0 cap0 zs := by
    obtain ⟨fuel, hf⟩ := h0
    rcases open_ints Tryz.underlying22 Tryz.underlying3 (by kernel_rfl) hf with ⟨hcs, _⟩ | ⟨x, l, c, zs, hcs, _, hl, hm, hz, _, hcell, hwz⟩
    · simp [Value.cells] at hcs
      obtain ⟨rfl, rfl, rfl⟩ := hcs
      exact ⟨[], .inl ⟨rfl, rfl, rfl, rfl⟩⟩
    · simp [Value.cells] at hcs
      obtain ⟨rfl, rfl, rfl⟩ := hcs
      exact ⟨zs, .inr ⟨_, rfl, hl, hm, by simpa using hz, hcell, hwz⟩⟩
  clear hA0 hval0
  refine (walk a0 len0 cap0 z0 W w0).mono fun e W' ⟨he, bel⟩ => ?_
  subst he
  exact ⟨_, rfl, _, _, _, [], _, [], hW', trodAll_mk1 (shut_bool Tryz.underlying4 _), (trodAll_cons_mk (Below.trod laidOut (by kernel_rfl) (of_decide_eq_true (by kernel_rfl)) k0 bel lt0) trodAll_mk0), rfl, bel.frame _, fun h => by cases h⟩

theorem over : Rows.exposureReadersRow.holds Tryz.pinned (OpenSpec.ofChange Rows.exposureReadersSpec) :=
  OpenClaim.holds_of_wide 4 Tryz.f4 rfl rfl rfl rfl rfl rfl rfl ⟨rfl, rfl, rfl, rfl, rfl⟩ rfl rfl rfl rfl rfl (by kernel_rfl) Tryz.func4 (by kernel_rfl)
    (of_decide_eq_true (by kernel_rfl)) (by unfold Func.isWrapper; first | (rw [if_pos (by decide +kernel)]; kernel_rfl) | (rw [if_neg (by decide +kernel)]; exact ⟨rfl, rfl⟩))
    (fun os started H enc _ => lifted os started H enc)

/-- ████ THE STATEMENT ████ -/
theorem proved : Rows.ExposureReadersSaid := over
#print axioms proved
end Go.Proofs.YtgknfkmojhganaaGreat.exposureReaders
