/-
  The Go function leakresponse/leakresponselaw30.ExposureGrow returns true for every list of numbers, and leaves what was there as it was; no conditions. A grant or a link more at the end takes no exposure away, and makes none later.
-/
import Derived.Test.YtgknfkmojhganaaGreatExAll
import Derived.Test.YtgknfkmojhganaaGreatRows
import Derived.BigQuiet
import Derived.Deep.AppendLies
import Derived.Deep.RegionLaw
import Derived.WalkKit
import Derived.ProofKit
import Derived.OpenShut
import Derived.ShutString
import Derived.ChangeOld
import Derived.Below
import Derived.StillTailTactics
import Derived.Deep.CutBlock
namespace Go.Proofs.YtgknfkmojhganaaGreat.exposureGrow
open Go.ChangeShapes Go.WideShapes Go.ChangeAt Go.RowKit
open Go.ChangeMaps (open_string shut_string)
open Go.Proofs.YtgknfkmojhganaaGreat.Tp
open Go.Proofs.YtgknfkmojhganaaGreat.Di
set_option linter.unusedVariables false
set_option linter.unusedSimpArgs false

set_option maxRecDepth 100000 in
set_option maxHeartbeats 16000000 in
theorem walk (a0 : Option Addr) (len0 cap0 : Nat) (z0 : List Int) (w : World) (w0 : IsRow .i64 w a0 len0 cap0 z0) :
    Calls Tryz.prog 6 #[.slice a0 len0 cap0] w fun e w' => e = .returned (.bool true) ∧ Below w.heap.size w w' := by
  have hm := w0.at_.1
  unfold maxLen at hm
  have HTP := Lib.hid (tape_new w0)
  have HBX := Lib.hid (box_below w (.cells #[.slice a0 len0 cap0, .int .i64 0] 34))
  clear w0
  by_cases hlen : 400 < len0
  · have hl0 : (400 : Int) < (len0 : Int) := by omega
    go_enter Tryz.func6, Tryz.ntmps6
    go_wp2_with (go_at_call 26; refine (xawake_any _).mono ?_; rintro e w1 ⟨rfl, hb1⟩; have HB1 := Lib.hid hb1; clear hb1)
    go_ret
    exact ⟨rfl, HB1.out⟩
  · have hl0 : (len0 : Int) ≤ (400 : Int) := by omega
    go_enter Tryz.func6, Tryz.ntmps6
    go_wp2_with fail
    refine (directory_any w.heap.size _ HTP.out (by simp)).mono ?_
    rintro e w1 ⟨d, ⟨D1, dc1, D2, dc2⟩, rfl, hmk, hrl, hg1, ht1⟩
    have hb1 : Below w.heap.size w w1 := HBX.out.grown hg1 HBX.out.size (fun k e => by cases e; exact Nat.le_refl _)
    have hs1 := hg1.size
    simp at hs1
    have HQ := Lib.hid (heap_alloc_new w1 (.cells (gd d ⟨D1, dc1, D2, dc2⟩) 25))
    have HDL := Lib.hid ((hrl.base (show w.heap.size + 1 ≤ _ by simp)).below (box_below w1 (.cells (gd d ⟨D1, dc1, D2, dc2⟩) 25)))
    have HB1 := Lib.hid (hb1.trans ((box_below w1 (.cells (gd d ⟨D1, dc1, D2, dc2⟩) 25)).mono hb1.size))
    have HT1 := Lib.hid (tape_new2 ht1 (.cells (gd d ⟨D1, dc1, D2, dc2⟩) 25))
    have HMK := Lib.hid hmk
    have hn1 := hmk.n1
    have hn7 := hmk.n7
    have he11 := hmk.e11
    have lT1 : w.heap.size < w1.heap.size := by omega
    clear hrl hg1 ht1 hb1 hmk
    obtain ⟨g0, g1⟩ := gdCells HQ.out
    have HFD := Lib.hid (show (#[.slice D1 d.k.length dc1, .slice D2 d.e.length dc2] : Array Value) = gd d ⟨D1, dc1, D2, dc2⟩ from rfl)
    go_wp2_with (with_reducible (show wpList _ _ _ (⟨none, .store 25 (.tmp 4) (.tmp 23), _, _, _, _⟩ :: _) _ _); refine wpList_store_row (o := ⟨none, .store 25 (.tmp 4) (.tmp 23), _, _, _, _⟩) rfl 25 (.tmp 4) (.tmp 23) rfl w1.heap.size (gd d ⟨D1, dc1, D2, dc2⟩) rfl rfl 25 zD (heap_alloc_new _ _) (info25 _ _) rfl (gd_one _ _) ?_; rw [new_set])
    have lQ : w1.heap.size < (w1.alloc (.cells (gd d ⟨D1, dc1, D2, dc2⟩) 25)).heap.size := row_lt HQ.out
    generalize w1.alloc (.cells (gd d ⟨D1, dc1, D2, dc2⟩) 25) = WA at *
    generalize w1.heap.size = Q at *
    rw [HFD.out]
    refine (estate_any w.heap.size d ⟨D1, dc1, D2, dc2⟩ WA HT1.out (by omega) hn1 hn7).mono ?_
    rintro e w2 ⟨a, ⟨A, vc⟩, rfl, hme, hel, hg2, ht2⟩
    have hb2 : Below w.heap.size w w2 := HB1.out.grown hg2 HB1.out.size (fun k e => by cases e; exact Nat.le_refl _)
    have hs2 : w.heap.size + 1 ≤ w2.heap.size := by have := hg2.size; omega
    have hq2 := (hg2.block _ lQ (fun e => by injection e; omega)).trans HQ.out
    have hbe := box_below w2 (.cells (ge a ⟨A, vc⟩) 28)
    have HQ2 := Lib.hid ((hbe.block _ (row_lt hq2)).trans hq2)
    have HD2 := Lib.hid ((HDL.out.grown hg2 (fun g e => by cases e; omega)).below hbe)
    have HR := Lib.hid (heap_alloc_new w2 (.cells (ge a ⟨A, vc⟩) 28))
    have HEL := Lib.hid (Row.below (hel.base (show w.heap.size + 1 ≤ _ by omega)) hbe)
    have HB2 := Lib.hid (hb2.trans (hbe.mono hb2.size))
    have HT2 := Lib.hid (tape_new2 ht2 (.cells (ge a ⟨A, vc⟩) 28))
    have HME := Lib.hid hme
    have ha1 := hme.ok.n1
    have ha4 := hme.n4
    have ha15 := hme.m15
    have hRs : Q < w2.heap.size := row_lt hq2
    clear hel hg2 ht2 hb2 hme HB1 HT1 HBX HTP hbe hq2 HQ HDL g0 g1
    obtain ⟨g0, g1⟩ := gdCells HQ2.out
    obtain ⟨c0, c1⟩ := geCells HR.out
    have HFE := Lib.hid (show (#[.int .i64 a.n, .slice A a.e.length vc] : Array Value) = ge a ⟨A, vc⟩ from rfl)
    go_wp2_with (with_reducible (show wpList _ _ _ (⟨none, .store 28 (.tmp 5) (.tmp 26), _, _, _, _⟩ :: _) _ _); refine wpList_store_row (o := ⟨none, .store 28 (.tmp 5) (.tmp 26), _, _, _, _⟩) rfl 28 (.tmp 5) (.tmp 26) rfl w2.heap.size (ge a ⟨A, vc⟩) rfl rfl 28 zE (heap_alloc_new _ _) (infoEs _ _) rfl (ge_one _ _) ?_; rw [new_set])
    have lR : w2.heap.size < (w2.alloc (.cells (ge a ⟨A, vc⟩) 28)).heap.size := row_lt HR.out
    generalize w2.alloc (.cells (ge a ⟨A, vc⟩) 28) = WB at *
    generalize w2.heap.size = R at *
    have lQB : Q < WB.heap.size := row_lt HQ2.out
    have HDO := Lib.hid HMK.out.ok
    have HEO := Lib.hid HME.out.ok
    obtain ⟨n, hn⟩ : ∃ n : Nat, a.n = (n : Int) := ⟨a.n.toNat, by omega⟩
    have hn6 : n ≤ 16 := by omega
    have HAN := Lib.hid hn
    obtain ⟨lt, hlt, hlt2, hltm⟩ := Eok.last29 HME.out
    have HLT := Lib.hid hlt
    have HLM := Lib.hid hltm
    clear hlt hltm
    refine (next_any w.heap.size 3 WB HT2.out (by omega) (by omega)).mono ?_
    rintro e WC ⟨zc, zc0, zc1, rfl, hgc, htc⟩
    obtain ⟨c, rfl⟩ : ∃ z : Nat, zc = z := ⟨zc.toNat, by omega⟩
    have hc3 : c < 3 := by omega
    have HQ3 := Lib.hid ((hgc.block _ lQB (fun e => by injection e; omega)).trans HQ2.out)
    have HR3 := Lib.hid ((hgc.block _ lR (fun e => by injection e; omega)).trans HR.out)
    have HD3 := Lib.hid (HD2.out.grown hgc (fun g e => by cases e; omega))
    have HE3 := Lib.hid (Row.grown HEL.out hgc (fun g e => by cases e; omega))
    have HB3 := Lib.hid (HB2.out.grown hgc HB2.out.size (fun k e => by cases e; exact Nat.le_refl _))
    have HT3 := Lib.hid htc
    have lQC : Q < WC.heap.size := row_lt HQ3.out
    have lRC : R < WC.heap.size := row_lt HR3.out
    have lTC : w.heap.size < WC.heap.size := by omega
    clear zc0 zc1 hgc htc g0 g1 c0 c1 HQ2 HR HD2 HEL HB2 HT2 lQB lR lQ
    obtain ⟨g0, g1⟩ := gdCells HQ3.out
    obtain ⟨c0, c1⟩ := geCells HR3.out
    go_upto_if 32 with fail
    go_cut [7] from 29 to 41 (fun s7 wx => s7 = .int .i64 (lt : Int) ∧ WC = wx)
    case first =>
      by_cases hE : a.e.length = 0
      · have hd : decide ((0 : Int) < (a.e.length : Int)) = false := decide_eq_false (by omega)
        have hd2 : ¬ 0 < a.e.length := by omega
        have hl0 : (0 : Int) = (lt : Int) := by rw [← HLT.out]; unfold lastA; rw [if_pos hE]
        have HL0 := Lib.hid hl0
        clear hl0 hE
        go_wp2_with fail
        go_meet
        case rel => exact ⟨by rw [HL0.out], rfl⟩
      · have hd : decide ((0 : Int) < (a.e.length : Int)) = true := decide_eq_true (by omega)
        have hd2 : 0 < a.e.length := by omega
        obtain ⟨m, hm⟩ : ∃ m, a.e.length = m + 1 := ⟨a.e.length - 1, by omega⟩
        obtain ⟨be, oe, hA2, -, -, hac⟩ := Row.ac HE3.out (show m < a.e.length by omega)
        have hA2 : A = some ⟨be, oe, none⟩ := hA2
        obtain ⟨y0, -, -, -, -, -, -⟩ := hac
        have hy : (ag a.e m).t = (lt : Int) := by rw [← HLT.out]; unfold lastA; rw [if_neg (by omega), show a.e.length - 1 = m by omega]
        rw [hy] at y0
        have hw1 : IntKind.i64.wrap ((a.e.length : Int) - 1) = (m : Int) := by rw [IntWalk.i64_in _ (by omega)]; omega
        have hw2 : (a.e.length : Int) - 1 = (m : Int) := by omega
        have m2' : (m : Int) ≤ 20 := by omega
        have m0' : (0 : Int) ≤ (m : Int) := by omega
        have m1' : (m : Int) < (a.e.length : Int) := by omega
        subst hA2
        clear hE hm hy hn
        go_wp2_with fail
        go_meet
        case rel => exact ⟨rfl, rfl⟩
    case rest =>
    obtain ⟨rfl, rfl⟩ := hcut
    have HNX1 := Lib.hid (fun w' (h : TapeOk w' w.heap.size) => next_any w.heap.size a.n w' h (by omega) (by omega))
    have HNX3 := Lib.hid (fun w' (h : TapeOk w' w.heap.size) => next_any w.heap.size d.k.length w' h (by omega) (by omega))
    have HM1 := Lib.hid True.intro
    clear hn
    go_upto_region 10 with fail
    go_cut [8] from 42 to 52 (fun s8 wx => ∃ (P : Nat) (q : Nat) (G : Nat), s8 = .pointer (some ⟨G, 0, none⟩) ∧ (P : Int) < a.n ∧ q < d.k.length ∧ WC.heap.size ≤ G ∧ wx.heap[G]? = some (.cells #[.int .i64 (lt : Int), .int .i64 1, .int .i64 (P : Int), .int .i64 (q : Int), .int .i64 0, .int .i64 0, .int .i64 0] 76 (0, 0)) ∧ WC.grownBy wx (some w.heap.size) ∧ TapeOk wx w.heap.size)
    case first =>
      -- CUT
      have k0 := fun o => (World.cell?_alloc_lt WC o ⟨Q, 0, none⟩ lQC).trans g0
      have k1 := fun o => (World.cell?_alloc_lt WC o ⟨R, 0, none⟩ lRC).trans c0
      go_region_law (first
        | (go_simp; go_at_call 12; clear HM1; (with_reducible refine (HNX1.out _ ?_).mono ?_); (first | exact HT3.out | exact tape_below HT3.out (Below.refl _ _).drew | exact tape_new2 HT3.out _ | exact tape_new2 (tape_below HT3.out (Below.refl _ _).drew) _); (rintro e wm ⟨zp, z0, z1, rfl, hg3, ht3⟩; obtain ⟨P, rfl⟩ : ∃ s : Nat, zp = s := ⟨zp.toNat, by omega⟩; have HP := Lib.hid (show (P : Int) < a.n by omega); have hg3' : WC.grownBy wm (some w.heap.size) := (by first | exact ⟨hg3.os, hg3.tape, hg3.output, hg3.size, hg3.block⟩ | exact gb_trans (gb_row (gb_of_below (box_below WC _))) ⟨hg3.os, hg3.tape, hg3.output, hg3.size, hg3.block⟩); (first | clear g0 g1 c0 c1 | skip); obtain ⟨g0, g1⟩ := gdCells ((hg3'.block _ lQC (fun e => by injection e; omega)).trans HQ3.out); obtain ⟨c0, c1⟩ := geCells ((hg3'.block _ lRC (fun e => by injection e; omega)).trans HR3.out); have lq3 : Q < wm.heap.size := Nat.lt_of_lt_of_le lQC hg3'.size; have lr3 : R < wm.heap.size := Nat.lt_of_lt_of_le lRC hg3'.size; (first | clear k0 k1 | skip); have k0 := fun o => (World.cell?_alloc_lt wm o ⟨Q, 0, none⟩ lq3).trans g0; have k1 := fun o => (World.cell?_alloc_lt wm o ⟨R, 0, none⟩ lr3).trans c0; have GM := Lib.hid hg3'; have TM := Lib.hid ht3; (first | (have X1 := Lib.hid (show wm.heap[WC.heap.size]? = some zA from (hg3.block WC.heap.size (by simp) (fun e => by injection e; omega)).trans (heap_alloc_new WC zA)); obtain ⟨⟨x0, x1, x2, x3, x4, x5, x6⟩, f0, f1, f2, f3, f4, f5, f6⟩ := xc7 X1.out) | skip); (try clear hg3'); (try clear hg3); (try clear ht3); (try clear z0 z1)))
        | (go_simp; go_at_call 12; (with_reducible refine (HNX3.out _ ?_).mono ?_); (first | exact TM.out | exact tape_below TM.out (Below.refl _ _).drew | exact tape_new2 TM.out _ | exact tape_new2 (tape_below TM.out (Below.refl _ _).drew) _); (rintro e wq ⟨zq, z0, z1, rfl, hg3, ht3⟩; obtain ⟨q, rfl⟩ : ∃ s : Nat, zq = s := ⟨zq.toNat, by omega⟩; have Hq := Lib.hid (show q < d.k.length by omega); have hg3' : WC.grownBy wq (some w.heap.size) := (by first | exact gb_trans GM.out ⟨hg3.os, hg3.tape, hg3.output, hg3.size, hg3.block⟩ | exact gb_trans GM.out (gb_trans (gb_row (gb_of_below (box_below wm _))) ⟨hg3.os, hg3.tape, hg3.output, hg3.size, hg3.block⟩)); (first | clear g0 g1 c0 c1 | skip); obtain ⟨g0, g1⟩ := gdCells ((hg3'.block _ lQC (fun e => by injection e; omega)).trans HQ3.out); obtain ⟨c0, c1⟩ := geCells ((hg3'.block _ lRC (fun e => by injection e; omega)).trans HR3.out); have lq3 : Q < wq.heap.size := Nat.lt_of_lt_of_le lQC hg3'.size; have lr3 : R < wq.heap.size := Nat.lt_of_lt_of_le lRC hg3'.size; (first | clear k0 k1 | skip); have k0 := fun o => (World.cell?_alloc_lt wq o ⟨Q, 0, none⟩ lq3).trans g0; have k1 := fun o => (World.cell?_alloc_lt wq o ⟨R, 0, none⟩ lr3).trans c0; have GQ := Lib.hid hg3'; have TQ := Lib.hid ht3; (first | (have X2 := Lib.hid (show wq.heap[WC.heap.size]? = some zA from (hg3.block WC.heap.size (row_lt X1.out) (fun e => by injection e; omega)).trans X1.out); obtain ⟨⟨x0, x1, x2, x3, x4, x5, x6⟩, f0, f1, f2, f3, f4, f5, f6⟩ := xc7 X2.out) | (have X2 := Lib.hid (show wq.heap[wm.heap.size]? = some zA from (hg3.block wm.heap.size (by simp) (fun e => by injection e; have := GM.out.size; omega)).trans (heap_alloc_new wm zA)); obtain ⟨⟨x0, x1, x2, x3, x4, x5, x6⟩, f0, f1, f2, f3, f4, f5, f6⟩ := xc7 X2.out) | skip); (try clear hg3'); (try clear hg3); (try clear ht3); (try clear z0 z1))))
      all_goals
        go_wp2_with fail
        go_meet
        case rel =>
          first
            | exact ⟨P, q, _, rfl, HP.out, Hq.out, GQ.out.size, heap_alloc_new wq _, gb_alloc2 GQ.out _, tape_new2 TQ.out _⟩
            | (rw [set7row X2.out rfl]; exact ⟨P, q, _, rfl, HP.out, Hq.out, by first | exact Nat.le_refl _ | exact GM.out.size, setRow_heap _ _ _ _ _ _ X2.out, gb_far GQ.out (by first | exact Nat.le_refl _ | exact GM.out.size) _, tape_set TQ.out (by first | omega | (have := GM.out.size; omega)) _⟩)
      -- END
    case rest =>
    obtain ⟨P, q, G, rfl, hPa, hqn, hGC, hxb, hgx, htx⟩ := hcut
    rename World => Wq
    have lGW : G < Wq.heap.size := row_lt hxb
    have XB := Lib.hid hxb
    have GB := Lib.hid hgx
    have TB := Lib.hid htx
    clear hxb hgx htx g0 g1 c0 c1 HM1
    go_wp2_with fail
    refine (next_any w.heap.size 2 _ TB.out (by omega) (by omega)).mono ?_
    rintro e wr ⟨z, hz0, hz1, rfl, hgr, htr⟩
    have XR := Lib.hid ((hgr.block _ lGW (fun e => by injection e; omega)).trans XB.out)
    have GR := Lib.hid (gb_trans GB.out hgr)
    clear hgr htr
    go_upto_if 55 with fail
    go_cut [8] from 56 to 61 (fun s8 wx => ∃ x : Ac, s8 = .pointer (some ⟨G, 0, none⟩) ∧ InE x ∧ evP a.n x ∧ x.t = (lt : Int) ∧ wx.heap[G]? = some (.cells (acc x) 76 (0, 0)) ∧ WC.grownBy wx (some w.heap.size))
    case first =>
      rcases (by omega : z = 0 ∨ z = 1) with rfl | rfl
      · clear hz0 hz1
        go_wp2_with fail
        go_meet
        case rel => exact ⟨⟨(lt : Int), 1, (P : Int), (q : Int), 0, 0, 0⟩, rfl, .inl rfl, ⟨by show (0 : Int) ≤ (lt : Int); omega, by show (lt : Int) ≤ _; omega, by show (0 : Int) ≤ (P : Int); omega, hPa, .inl ⟨.inl rfl, by show (0 : Int) ≤ (q : Int); omega, by show (q : Int) < 24; omega, rfl, rfl, rfl⟩⟩, rfl, XR.out, GR.out⟩
      · obtain ⟨n0, n1, n2, n3, n4, n5, n6⟩ := accCells (x := ⟨(lt : Int), 1, (P : Int), (q : Int), 0, 0, 0⟩) XR.out
        simp only at n0 n1 n2 n3 n4 n5 n6
        have hw3 : IntKind.i64.wrap ((lt : Int) + 3) = (lt : Int) + 3 := IntWalk.i64_in _ (by omega)
        clear hz0 hz1
        have f0 : wr.frozen? ⟨G, 0, none⟩ = false := frozen_of_row _ _ _ _ _ XR.out
        have f1 : wr.frozen? ⟨G, 1, none⟩ = false := frozen_of_row _ _ _ _ _ XR.out
        have f2 : wr.frozen? ⟨G, 2, none⟩ = false := frozen_of_row _ _ _ _ _ XR.out
        have f3 : wr.frozen? ⟨G, 3, none⟩ = false := frozen_of_row _ _ _ _ _ XR.out
        have f4 : wr.frozen? ⟨G, 4, none⟩ = false := frozen_of_row _ _ _ _ _ XR.out
        have f5 : wr.frozen? ⟨G, 5, none⟩ = false := frozen_of_row _ _ _ _ _ XR.out
        have f6 : wr.frozen? ⟨G, 6, none⟩ = false := frozen_of_row _ _ _ _ _ XR.out
        go_wp2_with fail
        go_meet
        case rel => rw [set7row XR.out rfl]; exact ⟨⟨(lt : Int), 3, (P : Int), 0, (lt : Int) + 3, 0, 0⟩, rfl, .inr rfl, ⟨by show (0 : Int) ≤ (lt : Int); omega, by show (lt : Int) ≤ _; omega, by show (0 : Int) ≤ (P : Int); omega, hPa, .inr (.inl ⟨rfl, by show (lt : Int) < (lt : Int) + 3; omega, by show (lt : Int) + 3 ≤ _; omega, rfl, rfl, rfl⟩)⟩, rfl, setRow_heap _ _ _ _ _ _ XR.out, gb_far GR.out hGC _⟩
    case rest =>
    obtain ⟨x, rfl, hin, hev, hxt, hxb, hgx⟩ := hcut
    rename World => WD
    have OK2 := Lib.hid (show Eok ⟨a.n, a.e ++ [x]⟩ from HEO.out.add (by omega) hev (fun j hj => by rw [hxt]; exact HLM.out j hj))
    have HIN := Lib.hid hin
    have hqd := (hgx.block _ lQC (fun e => by injection e; omega)).trans HQ3.out
    have hqe := (hgx.block _ lRC (fun e => by injection e; omega)).trans HR3.out
    have hdd := HD3.out.grown hgx (fun g e => by cases e; omega)
    have hee := Row.grown HE3.out hgx (fun g e => by cases e; omega)
    have hbb := HB3.out.grown hgx HB3.out.size (fun k e => by cases e; exact Nat.le_refl _)
    have HDQ := Lib.hid (fun wr (h : Below WD.heap.size WD wr) => (h.block _ (row_lt hqd)).trans hqd)
    have HQF := Lib.hid (fun wr (h : Below WD.heap.size WD wr) => (h.block _ (row_lt hqe)).trans hqe)
    have HDF := Lib.hid (fun wr (h : Below WD.heap.size WD wr) => (hdd.below h).base (Nat.zero_le _))
    have HEF := Lib.hid (fun wr (h : Below WD.heap.size WD wr) => Row.base (B' := 0) (Row.below hee h) (Nat.zero_le _))
    have HBF := Lib.hid (fun wr (h : Below WD.heap.size WD wr) => hbb.trans (h.mono hbb.size))
    have XG := Lib.hid hxb
    have lGD : G < WD.heap.size := row_lt hxb
    have lRD : R < WD.heap.size := row_lt hqe
    obtain ⟨e0, e1⟩ := geCells hqe
    obtain ⟨j0, hj1, hy0, hy1, hy2⟩ := info_parts zinfoAc
    have HJ := Lib.hid hj1
    have HJ0 := Lib.hid hy0
    have HJ1 := Lib.hid hy1
    have HJ2 := Lib.hid hy2
    clear hev hxt hin hxb hgx hqd hqe hdd hee hbb hj1 hy0 hy1 hy2 HQ3 HR3 HD3 HE3 HB3 HT3 XB GB TB XR GR HNX1 HNX3
    go_upto_region 14 with fail
    rw [HFE.out]
    have hb0 := box_below WD (.cells (ge a ⟨A, vc⟩) 28)
    have hC0 := heap_alloc_new WD (.cells (ge a ⟨A, vc⟩) 28)
    obtain ⟨W0, hW0⟩ : ∃ W0, WD.alloc (.cells (ge a ⟨A, vc⟩) 28) = W0 := ⟨_, rfl⟩
    rw [hW0] at hb0 hC0 ⊢
    have HB0 := Lib.hid hb0
    have lC : WD.heap.size < W0.heap.size := row_lt hC0
    have HK := Lib.hid (fun w' (hb : Below W0.heap.size W0 w') => (⟨(hb.block _ lC).trans hC0, (hb.block _ (Nat.lt_trans lGD lC)).trans ((hb0.block _ lGD).trans XG.out), HQF.out _ (hb0.trans (hb.mono hb0.size))⟩ : w'.heap[WD.heap.size]? = some (.cells (ge a ⟨A, vc⟩) 28 (0, 0)) ∧ w'.heap[G]? = some (.cells (acc x) 76 (0, 0)) ∧ w'.heap[R]? = some (.cells (ge a ⟨A, vc⟩) 28 (0, 0))))
    have HKE := Lib.hid (fun w' (hb : Below W0.heap.size W0 w') => HEF.out _ (hb0.trans (hb.mono hb0.size)))
    obtain ⟨cC0, cG0, cR0⟩ := HK.out W0 (Below.refl _ _)
    obtain ⟨m0, m1⟩ := geCells cC0
    obtain ⟨e0, e1⟩ := geCells cR0
    obtain ⟨n0, n1, n2, n3, n4, n5, n6⟩ := accCells cG0
    have z1 := fun o => (World.cell?_alloc_lt W0 o ⟨R, 1, none⟩ (row_lt cR0)).trans e1
    clear hb0 hC0 hW0 cC0 cG0 cR0
    go_cut [9] from 63 to 69 (fun s9 wx => ∃ (C : Nat) (A7 : Option Addr) (c7 : Nat), s9 = .pointer (some ⟨C, 0, none⟩) ∧ wx.heap[C]? = some (.cells (ge ⟨a.n, a.e ++ [x]⟩ ⟨A7, c7⟩) 28 (0, 0)) ∧ EL wx 0 ⟨a.n, a.e ++ [x]⟩ ⟨A7, c7⟩ ∧ Below WD.heap.size WD wx)
    case first =>
      go_region_law (first
        | (refine app_step rfl (.const (.slice none 0 0)) (.tmp 64) W0.heap.size _ 26 76 rfl j0 (.agg #[.int .i64 0, .int .i64 0, .int .i64 0, .int .i64 0, .int .i64 0, .int .i64 0, .int .i64 0]) 7 56 Tryz.underlying26 HJ.out HJ0.out HJ1.out HJ2.out rfl (by omega) (.slice none 0 0) 0 [] rfl (own_nil _ _ _ _) A a.e.length vc (av a.e) (by simp [Act.eval, Act.put]) (HKE.out _ (by first | exact Below.refl _ _ | exact (Below.refl _ _).drew | exact box_below _ _ | exact (box_below _ _).drew | exact (Below.refl _ _).drew.trans ((box_below W0.drew _).mono (Nat.le_refl _)) | exact ((Below.refl _ _).drew.trans ((box_below W0.drew _).mono (Nat.le_refl _))).drew)) (av_one _) (by omega) (by omega) (by first | exact Nat.le_refl _ | (simp; done) | (simp; omega)) ?_; intro v1 w5 hown1 hgr1 _; rw [Nat.zero_add, List.nil_append] at hown1; obtain ⟨A2, c2, rfl⟩ := own_form hown1; have O5 := Lib.hid hown1; have P5 := Lib.hid (show Below W0.heap.size W0 w5 from Below.grown (by first | exact Below.refl _ _ | exact (Below.refl _ _).drew | exact box_below _ _ | exact (box_below _ _).drew | exact (Below.refl _ _).drew.trans ((box_below W0.drew _).mono (Nat.le_refl _)) | exact ((Below.refl _ _).drew.trans ((box_below W0.drew _).mono (Nat.le_refl _))).drew) hgr1 (by first | exact Nat.le_refl _ | (simp; done) | (simp; omega)) (fun k e => by cases e)); (first | (have K5 := Lib.hid (show w5.heap[W0.heap.size]? = some (.cells #[.int .i64 x.t, .int .i64 x.k, .int .i64 x.p, .int .i64 x.r, .int .i64 x.u, .int .i64 x.c, .int .i64 x.f] 76) from (hgr1.block W0.heap.size (by first | exact Nat.lt_succ_self _ | (simp; done)) (fun e => by cases e)).trans (heap_alloc_new W0 _))) | (have K5 := Lib.hid (show w5.heap[W0.heap.size]? = some (.cells #[.int .i64 x.t, .int .i64 x.k, .int .i64 x.p, .int .i64 x.r, .int .i64 x.u, .int .i64 x.c, .int .i64 x.f] 76) from (hgr1.block W0.heap.size (by first | exact Nat.lt_succ_self _ | (simp; done)) (fun e => by cases e)).trans (heap_alloc_new W0.drew _))) | skip); have hs5 := P5.out.size; obtain ⟨cC5, cG5, -⟩ := HK.out _ P5.out; obtain ⟨m0, m1⟩ := geCells cC5; obtain ⟨n0, n1, n2, n3, n4, n5, n6⟩ := accCells cG5; clear hown1 hgr1 cC5 cG5)
        | (refine step_append_lies _ rfl (.tmp 65) (.tmp 67) 26 rfl W0.heap.size 76 j0 (.agg #[.int .i64 0, .int .i64 0, .int .i64 0, .int .i64 0, .int .i64 0, .int .i64 0, .int .i64 0]) 7 56 Tryz.underlying26 HJ.out HJ0.out HJ1.out HJ2.out rfl (by decide) (.slice A2 a.e.length c2) a.e.length (av a.e) (by simp [Act.eval, Act.put]) (show World.ownsRow (w5.alloc (.cells #[.int .i64 x.t, .int .i64 x.k, .int .i64 x.p, .int .i64 x.r, .int .i64 x.u, .int .i64 x.c, .int .i64 x.f] 76)) _ _ _ _ _ _ from O5.out.alloc _) ⟨w5.heap.size, 0, none⟩ 1 1 [.int .i64 x.t, .int .i64 x.k, .int .i64 x.p, .int .i64 x.r, .int .i64 x.u, .int .i64 x.c, .int .i64 x.f] (by simp [Act.eval, Act.put]) rfl (World.news_of_block (show (w5.alloc (.cells #[.int .i64 x.t, .int .i64 x.k, .int .i64 x.p, .int .i64 x.r, .int .i64 x.u, .int .i64 x.c, .int .i64 x.f] 76)).heap[w5.heap.size]? = _ from heap_alloc_new w5 _)) (fun u hu => by simp only [List.mem_cons, List.not_mem_nil, or_false] at hu; rcases hu with rfl | rfl | rfl | rfl | rfl | rfl | rfl <;> rfl) (by decide) (by unfold maxLen; omega) (by omega) (by first | exact hs5 | (simp; omega)) _ rfl ?_; intro g5 c5 w6 hown6 hgr6 _ _; have HCL := Lib.hid (more_close (x := x) (WD := WD) (C := WD.heap.size) (vc := vc) (Nat.le_refl _) (show Below WD.heap.size WD ((w5.alloc (.cells #[.int .i64 x.t, .int .i64 x.k, .int .i64 x.p, .int .i64 x.r, .int .i64 x.u, .int .i64 x.c, .int .i64 x.f] 76))) from (HB0.out.trans ((P5.out.trans ((box_below w5 _).mono P5.out.size)).mono HB0.out.size))) (Nat.le_of_lt lC) ((heap_alloc_old w5 _ (row_lt (HK.out _ P5.out).1)).trans (HK.out _ P5.out).1) (show World.ownsRow ((w5.alloc (.cells #[.int .i64 x.t, .int .i64 x.k, .int .i64 x.p, .int .i64 x.r, .int .i64 x.u, .int .i64 x.c, .int .i64 x.f] 76))) _ _ _ _ _ _ from O5.out.alloc _) hgr6 hown6); have r2 : w6.frozen? ⟨WD.heap.size, 1, none⟩ = false := frozen_of_row _ _ _ _ _ HCL.out.1; obtain ⟨r0, r1⟩ := geCells HCL.out.1; clear hown6 hgr6)
        | (refine step_append_lies _ rfl (.tmp 65) (.tmp 67) 26 rfl W0.heap.size 76 j0 (.agg #[.int .i64 0, .int .i64 0, .int .i64 0, .int .i64 0, .int .i64 0, .int .i64 0, .int .i64 0]) 7 56 Tryz.underlying26 HJ.out HJ0.out HJ1.out HJ2.out rfl (by decide) (.slice A2 a.e.length c2) a.e.length (av a.e) (by simp [Act.eval, Act.put]) (show World.ownsRow (World.drew (w5.alloc (.cells #[.int .i64 x.t, .int .i64 x.k, .int .i64 x.p, .int .i64 x.r, .int .i64 x.u, .int .i64 x.c, .int .i64 x.f] 76))) _ _ _ _ _ _ from O5.out.alloc (.cells #[.int .i64 x.t, .int .i64 x.k, .int .i64 x.p, .int .i64 x.r, .int .i64 x.u, .int .i64 x.c, .int .i64 x.f] 76)) ⟨w5.heap.size, 0, none⟩ 1 1 [.int .i64 x.t, .int .i64 x.k, .int .i64 x.p, .int .i64 x.r, .int .i64 x.u, .int .i64 x.c, .int .i64 x.f] (by simp [Act.eval, Act.put]) rfl (World.news_of_block (show (World.drew (w5.alloc (.cells #[.int .i64 x.t, .int .i64 x.k, .int .i64 x.p, .int .i64 x.r, .int .i64 x.u, .int .i64 x.c, .int .i64 x.f] 76))).heap[w5.heap.size]? = _ from heap_alloc_new w5 _)) (fun u hu => by simp only [List.mem_cons, List.not_mem_nil, or_false] at hu; rcases hu with rfl | rfl | rfl | rfl | rfl | rfl | rfl <;> rfl) (by decide) (by unfold maxLen; omega) (by omega) (by first | exact hs5 | (simp; omega)) _ rfl ?_; intro g5 c5 w6 hown6 hgr6 _ _; have HCL := Lib.hid (more_close (x := x) (WD := WD) (C := WD.heap.size) (vc := vc) (Nat.le_refl _) (show Below WD.heap.size WD ((World.drew (w5.alloc (.cells #[.int .i64 x.t, .int .i64 x.k, .int .i64 x.p, .int .i64 x.r, .int .i64 x.u, .int .i64 x.c, .int .i64 x.f] 76)))) from (HB0.out.trans ((P5.out.trans ((box_below w5 _).mono P5.out.size)).drew.mono HB0.out.size))) (Nat.le_of_lt lC) ((heap_alloc_old w5 _ (row_lt (HK.out _ P5.out).1)).trans (HK.out _ P5.out).1) (show World.ownsRow ((World.drew (w5.alloc (.cells #[.int .i64 x.t, .int .i64 x.k, .int .i64 x.p, .int .i64 x.r, .int .i64 x.u, .int .i64 x.c, .int .i64 x.f] 76)))) _ _ _ _ _ _ from O5.out.alloc (.cells #[.int .i64 x.t, .int .i64 x.k, .int .i64 x.p, .int .i64 x.r, .int .i64 x.u, .int .i64 x.c, .int .i64 x.f] 76)) hgr6 hown6); have r2 : w6.frozen? ⟨WD.heap.size, 1, none⟩ = false := frozen_of_row _ _ _ _ _ HCL.out.1; obtain ⟨r0, r1⟩ := geCells HCL.out.1; clear hown6 hgr6)
        | (refine step_append_lies _ rfl (.tmp 65) (.tmp 67) 26 rfl W0.heap.size 76 j0 (.agg #[.int .i64 0, .int .i64 0, .int .i64 0, .int .i64 0, .int .i64 0, .int .i64 0, .int .i64 0]) 7 56 Tryz.underlying26 HJ.out HJ0.out HJ1.out HJ2.out rfl (by decide) (.slice A2 a.e.length c2) a.e.length (av a.e) (by simp [Act.eval, Act.put]) (show World.ownsRow w5 _ _ _ _ _ _ from O5.out) ⟨W0.heap.size, 0, none⟩ 1 1 [.int .i64 x.t, .int .i64 x.k, .int .i64 x.p, .int .i64 x.r, .int .i64 x.u, .int .i64 x.c, .int .i64 x.f] (by simp [Act.eval, Act.put]) rfl (World.news_of_block (show w5.heap[W0.heap.size]? = _ from K5.out)) (fun u hu => by simp only [List.mem_cons, List.not_mem_nil, or_false] at hu; rcases hu with rfl | rfl | rfl | rfl | rfl | rfl | rfl <;> rfl) (by decide) (by unfold maxLen; omega) (by omega) (by first | exact hs5 | (simp; omega)) _ rfl ?_; intro g5 c5 w6 hown6 hgr6 _ _; have HCL := Lib.hid (more_close (x := x) (WD := WD) (C := WD.heap.size) (vc := vc) (Nat.le_refl _) (show Below WD.heap.size WD (w5) from (HB0.out.trans (P5.out.mono HB0.out.size))) (Nat.le_of_lt lC) (HK.out _ P5.out).1 (show World.ownsRow (w5) _ _ _ _ _ _ from O5.out) hgr6 hown6); have r2 : w6.frozen? ⟨WD.heap.size, 1, none⟩ = false := frozen_of_row _ _ _ _ _ HCL.out.1; obtain ⟨r0, r1⟩ := geCells HCL.out.1; clear hown6 hgr6)
        | (refine step_append_lies _ rfl (.tmp 65) (.tmp 67) 26 rfl W0.heap.size 76 j0 (.agg #[.int .i64 0, .int .i64 0, .int .i64 0, .int .i64 0, .int .i64 0, .int .i64 0, .int .i64 0]) 7 56 Tryz.underlying26 HJ.out HJ0.out HJ1.out HJ2.out rfl (by decide) (.slice A2 a.e.length c2) a.e.length (av a.e) (by simp [Act.eval, Act.put]) (show World.ownsRow (World.drew w5) _ _ _ _ _ _ from O5.out) ⟨W0.heap.size, 0, none⟩ 1 1 [.int .i64 x.t, .int .i64 x.k, .int .i64 x.p, .int .i64 x.r, .int .i64 x.u, .int .i64 x.c, .int .i64 x.f] (by simp [Act.eval, Act.put]) rfl (World.news_of_block (show (World.drew w5).heap[W0.heap.size]? = _ from K5.out)) (fun u hu => by simp only [List.mem_cons, List.not_mem_nil, or_false] at hu; rcases hu with rfl | rfl | rfl | rfl | rfl | rfl | rfl <;> rfl) (by decide) (by unfold maxLen; omega) (by omega) (by first | exact hs5 | (simp; omega)) _ rfl ?_; intro g5 c5 w6 hown6 hgr6 _ _; have HCL := Lib.hid (more_close (x := x) (WD := WD) (C := WD.heap.size) (vc := vc) (Nat.le_refl _) (show Below WD.heap.size WD ((World.drew w5)) from (HB0.out.trans (P5.out.drew.mono HB0.out.size))) (Nat.le_of_lt lC) (HK.out _ P5.out).1 (show World.ownsRow ((World.drew w5)) _ _ _ _ _ _ from O5.out) hgr6 hown6); have r2 : w6.frozen? ⟨WD.heap.size, 1, none⟩ = false := frozen_of_row _ _ _ _ _ HCL.out.1; obtain ⟨r0, r1⟩ := geCells HCL.out.1; clear hown6 hgr6))
      all_goals
        go_wp2_with fail
        go_meet
        case rel => exact ⟨_, _, _, rfl, HCL.out.2.1, HCL.out.2.2.1, HCL.out.2.2.2⟩
    case rest =>
    obtain ⟨C, A7, c7, rfl, hcb, hel, hbd⟩ := hcut
    rename World => VE
    have HVB := Lib.hid hbd
    have HQC := Lib.hid hcb
    have HEE := Lib.hid hel
    have HIF := Lib.hid (fun (p : Int) (T : Nat) (h : siF d a n (c : Int) p = some T) => siF_in HIN.out HEO.out OK2.out HAN.out h)
    have HFM := Lib.hid (show (#[.int .i64 a.n, .slice A7 (a.e ++ [x]).length c7] : Array Value) = ge ⟨a.n, a.e ++ [x]⟩ ⟨A7, c7⟩ from rfl)
    clear hcb hel hbd e0 e1 m0 m1 n0 n1 n2 n3 n4 n5 n6 z1
    generalize a.e ++ [x] = M at *
    obtain ⟨g0, g1⟩ := gdCells (HDQ.out _ HVB.out)
    go_wp2_with fail
    go_loopw [10] (fun pp wr => ∃ k : Nat, k ≤ d.k.length + 1 ∧ pp = .int .i64 ((k : Int) - 1) ∧ Below VE.heap.size VE wr) (fun pp _ => ((d.k.length : Int) - intOf pp).toNat)
    case atStart => exact ⟨0, by omega, rfl, Below.refl _ _⟩
    case round =>
      obtain ⟨k, hk, rfl, hbl⟩ := hrel
      clear g0 g1
      have HBL := Lib.hid hbl
      have BV := Lib.hid (HVB.out.trans (hbl.mono HVB.out.size))
      obtain ⟨g0, g1⟩ := gdCells (HDQ.out _ BV.out)
      obtain ⟨e0, e1⟩ := geCells (HQF.out _ BV.out)
      obtain ⟨m0, m1⟩ := geCells ((hbl.block _ (row_lt HQC.out)).trans HQC.out)
      obtain ⟨q, hq⟩ : ∃ q : Int, (k : Int) - 1 = q := ⟨_, rfl⟩
      have HQQ := Lib.hid hq
      rw [hq]
      by_cases hlt : k < d.k.length + 1
      · have dq : decide (q < (d.k.length : Int)) = true := decide_eq_true (by omega)
        have qw : IntKind.i64.wrap (q + 1) = (k : Int) := by rw [show q + 1 = (k : Int) by omega]; exact IntWalk.i64_in _ (by omega)
        have HKP := Lib.hid (fun w' (hb : Below wr.heap.size wr w') => (⟨gdCells (HDQ.out _ (BV.out.trans (hb.mono BV.out.size))), geCells (((HBL.out.trans (hb.mono HBL.out.size)).block _ (row_lt HQC.out)).trans HQC.out)⟩ : (w'.cell? ⟨Q, 0, none⟩ = some (.slice D1 d.k.length dc1) ∧ w'.cell? ⟨Q, 1, none⟩ = some (.slice D2 d.e.length dc2)) ∧ (w'.cell? ⟨C, 0, none⟩ = some (.int .i64 a.n) ∧ w'.cell? ⟨C, 1, none⟩ = some (.slice A7 M.length c7))))
        have hs1 := fun w' (hb : Below wr.heap.size wr w') => xSince_is d ⟨D1, dc1, D2, dc2⟩ a ⟨A, vc⟩ n (c : Int) q w' (HDF.out _ (BV.out.trans (hb.mono BV.out.size))) HDO.out (HEF.out _ (BV.out.trans (hb.mono BV.out.size))) HEO.out HAN.out ⟨by omega, by omega⟩ (by omega)
        have hs2 := fun w' (hb : Below wr.heap.size wr w') => xSince_is d ⟨D1, dc1, D2, dc2⟩ ⟨a.n, M⟩ ⟨A7, c7⟩ n (c : Int) q w' (HDF.out _ (BV.out.trans (hb.mono BV.out.size))) HDO.out (Row.below (Row.below HEE.out HBL.out) hb) OK2.out HAN.out ⟨by omega, by omega⟩ (by omega)
        have hif := HIF.out q
        generalize siF d a n (c : Int) q = o1 at *
        generalize siF d ⟨a.n, M⟩ n (c : Int) q = o2 at *
        cases o1 with
        | none =>
          have HS1 := Lib.hid (fun w' hb => (show Calls Tryz.prog 34 #[.agg (gd d ⟨D1, dc1, D2, dc2⟩), .agg (ge a ⟨A, vc⟩), .int .i64 (c : Int), .int .i64 q] w' fun e w2 => e = .returned (.tuple #[.int .i64 0, .bool false]) ∧ Below w'.heap.size w' w2 from hs1 w' hb))
          have HS2 := Lib.hid hs2
          clear hs1 hs2 hif hq hbl
          generalize on o2 = s2 at *
          generalize o2.isSome = b2 at *
          go_wp2_with (first
            | (go_at_call 34; rw [HFD.out, HFE.out]; (with_reducible refine (HS1.out _ (Below.refl _ _)).mono ?_); rintro e wr1 ⟨rfl, hb1⟩; have B1 := Lib.hid hb1; clear hb1 g0 g1 e0 e1 m0 m1; obtain ⟨⟨g0, g1⟩, ⟨m0, m1⟩⟩ := HKP.out _ B1.out)
            | (go_at_call 34; rw [HFD.out, HFM.out]; (with_reducible refine (HS2.out _ B1.out).mono ?_); rintro e wr2 ⟨rfl, hb2⟩; have B2 := Lib.hid (B1.out.trans (hb2.mono B1.out.size)); clear hb2))
          exact ⟨⟨k + 1, by omega, congrArg (Value.int .i64) (by omega), HBL.out.trans (B2.out.mono HBL.out.size)⟩, by have := HQQ.out; simp [intOf]; omega⟩
        | some T =>
          obtain ⟨T2, h1, h2⟩ := hif T rfl
          subst h1
          have HS1 := Lib.hid (fun w' hb => (show Calls Tryz.prog 34 #[.agg (gd d ⟨D1, dc1, D2, dc2⟩), .agg (ge a ⟨A, vc⟩), .int .i64 (c : Int), .int .i64 q] w' fun e w2 => e = .returned (.tuple #[.int .i64 (T : Int), .bool true]) ∧ Below w'.heap.size w' w2 from hs1 w' hb))
          have HS2 := Lib.hid (fun w' hb => (show Calls Tryz.prog 34 #[.agg (gd d ⟨D1, dc1, D2, dc2⟩), .agg (ge ⟨a.n, M⟩ ⟨A7, c7⟩), .int .i64 (c : Int), .int .i64 q] w' fun e w2 => e = .returned (.tuple #[.int .i64 (T2 : Int), .bool true]) ∧ Below w'.heap.size w' w2 from hs2 w' hb))
          have dt : decide ((T : Int) < (T2 : Int)) = false := decide_eq_false (by omega)
          clear hs1 hs2 hif hq hbl
          go_wp2_with (first
            | (go_at_call 34; rw [HFD.out, HFE.out]; (with_reducible refine (HS1.out _ (Below.refl _ _)).mono ?_); rintro e wr1 ⟨rfl, hb1⟩; have B1 := Lib.hid hb1; clear hb1 g0 g1 e0 e1 m0 m1; obtain ⟨⟨g0, g1⟩, ⟨m0, m1⟩⟩ := HKP.out _ B1.out)
            | (go_at_call 34; rw [HFD.out, HFM.out]; (with_reducible refine (HS2.out _ B1.out).mono ?_); rintro e wr2 ⟨rfl, hb2⟩; have B2 := Lib.hid (B1.out.trans (hb2.mono B1.out.size)); clear hb2))
          exact ⟨⟨k + 1, by omega, congrArg (Value.int .i64) (by omega), HBL.out.trans (B2.out.mono HBL.out.size)⟩, by have := HQQ.out; simp [intOf]; omega⟩
      · have dq : decide (q < (d.k.length : Int)) = false := decide_eq_false (by omega)
        clear hq hbl
        go_wp2_with (go_at_call 26; refine (xawake_any _).mono ?_; rintro e w9 ⟨rfl, hb9⟩; have HB9 := Lib.hid ((HBF.out _ BV.out).trans (hb9.mono (HBF.out _ BV.out).size)); clear hb9)
        go_ret
        exact ⟨by first | rfl | simp, HB9.out⟩

/-! ### THE ROW's STEP: WRITTEN OUT: LEAVE IT -/
set_option maxRecDepth 100000 in
theorem lifted (os : Os) (started : os.Started) (H : Type) (enc : TypeId × Value → H) :
    ReturnsInHanded {} Tryz.checked os 6 .any (Rows.exposureGrowSpec.pre6 enc Tryz.prog Tryz.f6 Rows.exposureGrowRow.domain false) (Rows.exposureGrowSpec.post enc Tryz.prog Tryz.f6 false true false false) := by
  refine returnsInHanded_of_change (C := Tryz.checked) own started (by kernel_rfl) Tryz.func6
    (ChangeSpec.witness6 (enc := enc) (C := Tryz.checked) false ⟨#[], #[.slice none 0 0], []⟩ 8 (by kernel_rfl) (by kernel_rfl) (by kernel_rfl) (by kernel_rfl)) ?_
  intro W base args ds gs before hval0 hW hcnd _
  have hval : ∀ (j : Nat) t v, Tryz.f6.params[j]? = some t → args[j]? = some v → Value.okWide Tryz.prog W .any base t v := hval0
  have hW' := hW
  obtain ⟨p, q, hA0, hV, rfl, hfz, hnd⟩ := hW
  have hA : DataW.TrodAll enc Tryz.prog W 0 (fun _ => true) true Tryz.f6.params.toList args.toList ds p := hA0
  rw [Tryz.params6] at hA hval
  obtain ⟨v0, vs0, d0, ds0, p0, q0, hargs, rfl, rfl, h0, r0⟩ := trodAll_cons hA
  obtain ⟨rfl, rfl, rfl⟩ := trodAll_nil r0
  obtain rfl : args = #[v0] := by cases args; simp_all
  obtain ⟨rfl, rfl⟩ := trodVars_none hV
  obtain ⟨a0, len0, cap0, rfl⟩ := okWide_slice Tryz.underlying22 (hval 0 22 v0 rfl rfl)
  have k0 := h0
  have lt0 : ∀ x ∈ p0, x.block < W.heap.size := by obtain ⟨m, hm⟩ := k0; exact DataW.trod_lt m _ _ _ hm
  obtain ⟨z0, w0⟩ : ∃ zs, IsRow .i64 W a0 len0 cap0 zs := by
    obtain ⟨fuel, hf⟩ := h0
    rcases open_ints Tryz.underlying22 Tryz.underlying3 (by kernel_rfl) hf with ⟨hcs, _⟩ | ⟨x, l, c, zs, hcs, _, hl, hm, hz, _, hcell, hwz⟩
    · simp [Value.cells] at hcs
      obtain ⟨rfl, rfl, rfl⟩ := hcs
      exact ⟨[], .inl ⟨rfl, rfl, rfl, rfl⟩⟩
    · simp [Value.cells] at hcs
      obtain ⟨rfl, rfl, rfl⟩ := hcs
      exact ⟨zs, .inr ⟨_, rfl, hl, hm, by simpa using hz, hcell, hwz⟩⟩
  clear hA0 hval0
  refine (walk a0 len0 cap0 z0 W w0).mono fun e W' ⟨he, bel⟩ => ?_
  subst he
  exact ⟨_, rfl, _, _, _, [], _, [], hW', trodAll_mk1 (shut_bool Tryz.underlying4 _), (trodAll_cons_mk (Below.trod laidOut (by kernel_rfl) (of_decide_eq_true (by kernel_rfl)) k0 bel lt0) trodAll_mk0), rfl, bel.frame _, fun h => by cases h⟩

theorem over : Rows.exposureGrowRow.holds Tryz.pinned (OpenSpec.ofChange Rows.exposureGrowSpec) :=
  OpenClaim.holds_of_wide 6 Tryz.f6 rfl rfl rfl rfl rfl rfl rfl ⟨rfl, rfl, rfl, rfl, rfl⟩ rfl rfl rfl rfl rfl (by kernel_rfl) Tryz.func6 (by kernel_rfl)
    (of_decide_eq_true (by kernel_rfl)) (by unfold Func.isWrapper; first | (rw [if_pos (by decide +kernel)]; kernel_rfl) | (rw [if_neg (by decide +kernel)]; exact ⟨rfl, rfl⟩))
    (fun os started H enc _ => lifted os started H enc)

/-- ████ THE STATEMENT ████ -/
theorem proved : Rows.ExposureGrowSaid := over
#print axioms proved
end Go.Proofs.YtgknfkmojhganaaGreat.exposureGrow
