/-
  The Go function leakresponse/leakresponselaw30.ExposureCopies returns true for every list of numbers, and leaves what was there as it was; no conditions. Who could read a content in a place could read every content that is copied there, from the copy on.
-/
import Derived.Test.YtgknfkmojhganaaGreatExAll
import Derived.Test.YtgknfkmojhganaaGreatRows
import Derived.Test.YtgknfkmojhganaaGreatRdM
import Derived.Test.YtgknfkmojhganaaGreatExTwo
import Derived.BigQuiet
import Derived.WalkKit
import Derived.ProofKit
import Derived.OpenShut
import Derived.ShutString
import Derived.ChangeOld
import Derived.Below
import Derived.StillTailTactics
import Derived.Deep.CutBlock
namespace Go.Proofs.YtgknfkmojhganaaGreat.exposureCopies
open Go.ChangeShapes Go.WideShapes Go.ChangeAt Go.RowKit
open Go.ChangeMaps (open_string shut_string)
open Go.Proofs.YtgknfkmojhganaaGreat.Tp
open Go.Proofs.YtgknfkmojhganaaGreat.Di
set_option linter.unusedVariables false
set_option linter.unusedSimpArgs false

set_option maxRecDepth 100000 in
set_option maxHeartbeats 16000000 in
theorem walk (a0 : Option Addr) (len0 cap0 : Nat) (z0 : List Int) (w : World) (w0 : IsRow .i64 w a0 len0 cap0 z0) :
    Calls Tryz.prog 8 #[.slice a0 len0 cap0] w fun e w' => e = .returned (.bool true) ∧ Below w.heap.size w w' := by
  have hm := w0.at_.1
  unfold maxLen at hm
  have HTP := Lib.hid (tape_new w0)
  have HBX := Lib.hid (box_below w (.cells #[.slice a0 len0 cap0, .int .i64 0] 34))
  clear w0
  by_cases hlen : 400 < len0
  · have hl0 : (400 : Int) < (len0 : Int) := by omega
    go_enter Tryz.func8, Tryz.ntmps8
    go_wp2_with (go_at_call 26; refine (xawake_any _).mono ?_; rintro e w1 ⟨rfl, hb1⟩; have HB1 := Lib.hid hb1; clear hb1)
    go_ret
    exact ⟨rfl, HB1.out⟩
  · have hl0 : (len0 : Int) ≤ (400 : Int) := by omega
    go_enter Tryz.func8, Tryz.ntmps8
    go_wp2_with fail
    refine (directory_any w.heap.size _ HTP.out (by simp)).mono ?_
    rintro e w1 ⟨d, ⟨D1, dc1, D2, dc2⟩, rfl, hmk, hrl, hg1, ht1⟩
    have hb1 : Below w.heap.size w w1 := HBX.out.grown hg1 HBX.out.size (fun k e => by cases e; exact Nat.le_refl _)
    have hs1 := hg1.size
    simp at hs1
    have HQ := Lib.hid (heap_alloc_new w1 (.cells (gd d ⟨D1, dc1, D2, dc2⟩) 25))
    have HDL := Lib.hid ((hrl.base (show w.heap.size + 1 ≤ _ by simp)).below (box_below w1 (.cells (gd d ⟨D1, dc1, D2, dc2⟩) 25)))
    have HB1 := Lib.hid (hb1.trans ((box_below w1 (.cells (gd d ⟨D1, dc1, D2, dc2⟩) 25)).mono hb1.size))
    have HT1 := Lib.hid (tape_new2 ht1 (.cells (gd d ⟨D1, dc1, D2, dc2⟩) 25))
    have HMK := Lib.hid hmk
    have hn1 := hmk.n1
    have hn7 := hmk.n7
    have he11 := hmk.e11
    have lT1 : w.heap.size < w1.heap.size := by omega
    clear hrl hg1 ht1 hb1 hmk
    obtain ⟨g0, g1⟩ := gdCells HQ.out
    have HFD := Lib.hid (show (#[.slice D1 d.k.length dc1, .slice D2 d.e.length dc2] : Array Value) = gd d ⟨D1, dc1, D2, dc2⟩ from rfl)
    go_wp2_with (with_reducible (show wpList _ _ _ (⟨none, .store 25 (.tmp 4) (.tmp 23), _, _, _, _⟩ :: _) _ _); refine wpList_store_row (o := ⟨none, .store 25 (.tmp 4) (.tmp 23), _, _, _, _⟩) rfl 25 (.tmp 4) (.tmp 23) rfl w1.heap.size (gd d ⟨D1, dc1, D2, dc2⟩) rfl rfl 25 zD (heap_alloc_new _ _) (info25 _ _) rfl (gd_one _ _) ?_; rw [new_set])
    have lQ : w1.heap.size < (w1.alloc (.cells (gd d ⟨D1, dc1, D2, dc2⟩) 25)).heap.size := row_lt HQ.out
    generalize w1.alloc (.cells (gd d ⟨D1, dc1, D2, dc2⟩) 25) = WA at *
    generalize w1.heap.size = Q at *
    rw [HFD.out]
    refine (estate_cap w.heap.size d ⟨D1, dc1, D2, dc2⟩ WA HT1.out (by omega) hn1 hn7).mono ?_
    rintro e w2 ⟨a, ⟨A, vc⟩, rfl, hme, hel, hg2, ht2, hcap⟩
    have hcap : a.e.length ≤ vc := hcap
    have hb2 : Below w.heap.size w w2 := HB1.out.grown hg2 HB1.out.size (fun k e => by cases e; exact Nat.le_refl _)
    have hs2 : w.heap.size + 1 ≤ w2.heap.size := by have := hg2.size; omega
    have hq2 := (hg2.block _ lQ (fun e => by injection e; omega)).trans HQ.out
    have hbe := box_below w2 (.cells (ge a ⟨A, vc⟩) 28)
    have HQ2 := Lib.hid ((hbe.block _ (row_lt hq2)).trans hq2)
    have HD2 := Lib.hid ((HDL.out.grown hg2 (fun g e => by cases e; omega)).below hbe)
    have HR := Lib.hid (heap_alloc_new w2 (.cells (ge a ⟨A, vc⟩) 28))
    have HEL := Lib.hid (Row.below (hel.base (show w.heap.size + 1 ≤ _ by omega)) hbe)
    have HB2 := Lib.hid (hb2.trans (hbe.mono hb2.size))
    have HT2 := Lib.hid (tape_new2 ht2 (.cells (ge a ⟨A, vc⟩) 28))
    have HME := Lib.hid hme
    have ha1 := hme.ok.n1
    have ha4 := hme.n4
    have ha15 := hme.m15
    have hRs : Q < w2.heap.size := row_lt hq2
    clear hel hg2 ht2 hb2 hme HB1 HT1 HBX HTP hbe hq2 HQ HDL g0 g1
    obtain ⟨g0, g1⟩ := gdCells HQ2.out
    obtain ⟨c0, c1⟩ := geCells HR.out
    have HFE := Lib.hid (show (#[.int .i64 a.n, .slice A a.e.length vc] : Array Value) = ge a ⟨A, vc⟩ from rfl)
    go_upto_if 30 with (with_reducible (show wpList _ _ _ (⟨none, .store 28 (.tmp 5) (.tmp 26), _, _, _, _⟩ :: _) _ _); refine wpList_store_row (o := ⟨none, .store 28 (.tmp 5) (.tmp 26), _, _, _, _⟩) rfl 28 (.tmp 5) (.tmp 26) rfl w2.heap.size (ge a ⟨A, vc⟩) rfl rfl 28 zE (heap_alloc_new _ _) (infoEs _ _) rfl (ge_one _ _) ?_; rw [new_set])
    have lR : w2.heap.size < (w2.alloc (.cells (ge a ⟨A, vc⟩) 28)).heap.size := row_lt HR.out
    generalize w2.alloc (.cells (ge a ⟨A, vc⟩) 28) = WB at *
    generalize w2.heap.size = R at *
    have lQB : Q < WB.heap.size := row_lt HQ2.out
    have HDO := Lib.hid HMK.out.ok
    have HEO := Lib.hid HME.out.ok
    obtain ⟨n, hn⟩ : ∃ n : Nat, a.n = (n : Int) := ⟨a.n.toNat, by omega⟩
    have hn6 : n ≤ 16 := by omega
    have HAN := Lib.hid hn
    obtain ⟨lt, hlt, hlt2, hltm⟩ := Eok.last29 HME.out
    have HLT := Lib.hid hlt
    have HLM := Lib.hid hltm
    clear hlt hltm
    go_cut [6] from 27 to 39 (fun s6 wx => s6 = .int .i64 (lt : Int) ∧ WB = wx)
    case first =>
      by_cases hE : a.e.length = 0
      · have hd : decide ((0 : Int) < (a.e.length : Int)) = false := decide_eq_false (by omega)
        have hd2 : ¬ 0 < a.e.length := by omega
        have hl0 : (0 : Int) = (lt : Int) := by rw [← HLT.out]; unfold lastA; rw [if_pos hE]
        have HL0 := Lib.hid hl0
        clear hl0 hE
        go_wp2_with fail
        go_meet
        case rel => exact ⟨by rw [HL0.out], rfl⟩
      · have hd : decide ((0 : Int) < (a.e.length : Int)) = true := decide_eq_true (by omega)
        have hd2 : 0 < a.e.length := by omega
        obtain ⟨m, hm⟩ : ∃ m, a.e.length = m + 1 := ⟨a.e.length - 1, by omega⟩
        obtain ⟨be, oe, hA2, -, -, hac⟩ := Row.ac HEL.out (show m < a.e.length by omega)
        have hA2 : A = some ⟨be, oe, none⟩ := hA2
        obtain ⟨y0, -, -, -, -, -, -⟩ := hac
        have hy : (ag a.e m).t = (lt : Int) := by rw [← HLT.out]; unfold lastA; rw [if_neg (by omega), show a.e.length - 1 = m by omega]
        rw [hy] at y0
        have hw1 : IntKind.i64.wrap ((a.e.length : Int) - 1) = (m : Int) := by rw [IntWalk.i64_in _ (by omega)]; omega
        have hw2 : (a.e.length : Int) - 1 = (m : Int) := by omega
        have m2' : (m : Int) ≤ 20 := by omega
        have m0' : (0 : Int) ≤ (m : Int) := by omega
        have m1' : (m : Int) < (a.e.length : Int) := by omega
        subst hA2
        clear hE hm hy hn
        go_wp2_with fail
        go_meet
        case rel => exact ⟨rfl, rfl⟩
    case rest =>
    obtain ⟨rfl, rfl⟩ := hcut
    have HNX1 := Lib.hid (fun w' (h : TapeOk w' w.heap.size) => next_any w.heap.size a.n w' h (by omega) (by omega))
    have HM1 := Lib.hid True.intro
    have HK := Lib.hid (show ∀ w', WB.grownBy w' (some w.heap.size) → TapeOk w' w.heap.size → w'.cell? ⟨R, 0, none⟩ = some (.int .i64 a.n) ∧ WB.grownBy w' (some w.heap.size) ∧ TapeOk w' w.heap.size from fun w' hg ht => ⟨(geCells ((hg.block _ lR (fun e => by injection e; omega)).trans HR.out)).1, hg, ht⟩)
    have gd0 : WB.grownBy WB.drew (some w.heap.size) := gb_drewN WB 1 _
    have td0 : TapeOk WB.drew w.heap.size := HT2.out
    clear hn
    go_upto_region 9 with fail
    go_region_held3 (fun w' => w'.cell? ⟨R, 0, none⟩ = some (.int .i64 a.n) ∧ WB.grownBy w' (some w.heap.size) ∧ TapeOk w' w.heap.size)
      (first | (with_reducible assumption) | (with_reducible exact HK.out _ gd0 td0) | (with_reducible exact HK.out _ ga ta) | (with_reducible exact HK.out _ gn tn))
      (first
        | (go_at_call 12; clear HM1; (with_reducible refine (HNX1.out _ ?_).mono ?_); (go_split_ands; with_reducible assumption); rintro e wm ⟨zi, a1, b1, rfl, hga, hta⟩; obtain ⟨f, rfl⟩ : ∃ z : Nat, zi = z := ⟨zi.toNat, by omega⟩; go_split_ands; have ga : WB.grownBy wm (some w.heap.size) := gb_trans (by with_reducible assumption) hga; have ta := hta; clear hga hta)
        | (go_at_call 12; (with_reducible refine (HNX1.out _ ?_).mono ?_); (go_split_ands; with_reducible assumption); rintro e w3 ⟨zj, a2, b2, rfl, hgn, htn⟩; obtain ⟨o, rfl⟩ : ∃ z : Nat, zj = z := ⟨zj.toNat, by omega⟩; go_split_ands; have gn : WB.grownBy w3 (some w.heap.size) := gb_trans (by with_reducible assumption) hgn; have tn := htn; clear hgn htn))
    go_split_ands
    have hgo : WB.grownBy w3 (some w.heap.size) := gn
    have hqd := (hgo.block _ lQB (fun e => by injection e; omega)).trans HQ2.out
    have hqe := (hgo.block _ lR (fun e => by injection e; omega)).trans HR.out
    have hdd := HD2.out.grown hgo (fun g e => by cases e; omega)
    have hee := Row.grown HEL.out hgo (fun g e => by cases e; omega)
    have hbb := HB2.out.grown hgo HB2.out.size (fun k e => by cases e; exact Nat.le_refl _)
    have hfn : f < n := by have := HAN.out; omega
    have hon : o < n := by have := HAN.out; omega
    clear ga ta gn tn hgo gd0 td0 a1 b1 a2 b2 HK HNX1 HQ2 HR HD2 HEL HB2 HT2 g0 g1 c0 c1
    have HDQ := Lib.hid (fun wr (h : Below w3.heap.size w3 wr) => (h.block _ (row_lt hqd)).trans hqd)
    have HQF := Lib.hid (fun wr (h : Below w3.heap.size w3 wr) => (h.block _ (row_lt hqe)).trans hqe)
    have HDF := Lib.hid (fun wr (h : Below w3.heap.size w3 wr) => (hdd.below h).base (Nat.zero_le _))
    have HEF := Lib.hid (fun wr (h : Below w3.heap.size w3 wr) => Row.base (B' := 0) (Row.below hee h) (Nat.zero_le _))
    have HBF := Lib.hid (fun wr (h : Below w3.heap.size w3 wr) => hbb.trans (h.mono hbb.size))
    have lR3 : R < w3.heap.size := row_lt hqe
    obtain ⟨g0, g1⟩ := geCells hqe
    clear hqd hqe hdd hee hbb
    by_cases hfo : f = o
    · have e1 : ((f : Int) == (o : Int)) = true := beq_iff_eq.2 (by omega)
      clear hfo
      go_wp2_with (go_at_call 26; refine (xawake_any _).mono ?_; rintro e w9 ⟨rfl, hb9⟩; have HB9 := Lib.hid ((HBF.out _ (Below.refl _ _)).trans (hb9.mono (HBF.out _ (Below.refl _ _)).size)); clear hb9)
      go_ret
      exact ⟨by first | rfl | simp, HB9.out⟩
    · have e1 : ((f : Int) == (o : Int)) = false := beq_eq_false_iff_ne.2 (by omega)
      have OK2 := Lib.hid (show Eok ⟨a.n, a.e ++ [⟨(lt : Int), 7, (o : Int), 0, 0, 0, (f : Int)⟩]⟩ from HEO.out.add (by omega) ⟨by show (0 : Int) ≤ (lt : Int); omega, by show (lt : Int) ≤ _; omega, by show (0 : Int) ≤ (o : Int); omega, by rw [HAN.out]; show (o : Int) < (n : Int); omega, .inr (.inr (.inr (.inr ⟨rfl, by show (0 : Int) ≤ (f : Int); omega, by rw [HAN.out]; show (f : Int) < (n : Int); omega, by show (f : Int) ≠ (o : Int); omega, rfl, rfl, rfl⟩)))⟩ (fun j hj => HLM.out j hj))
      have HCI := Lib.hid (fun (c p : Nat) (h : wB a (c : Int) (lt : Int) f = true) => copy_is (d := d) (a := a) (lt := lt) (f := f) (o := o) (n := n) (p := p) (c := (c : Int)) hon h)
      clear hfo
      have hbc := box_below w3 (.cells (ge a ⟨A, vc⟩) 28)
      have HC4 := Lib.hid (heap_alloc_new w3 (.cells (ge a ⟨A, vc⟩) 28))
      have lC := row_lt HC4.out
      have z0 := fun o => (World.cell?_alloc_lt w3 o _ lR3).trans g0
      have z1 := fun o => (World.cell?_alloc_lt w3 o _ lR3).trans g1
      have HB34 := Lib.hid hbc
      have HE4 := Lib.hid (HEF.out _ hbc)
      obtain ⟨j0, hj1, hy0, hy1, hy2⟩ := info_parts zinfoAc
      have HJ := Lib.hid hj1
      have HJ0 := Lib.hid hy0
      have HJ1 := Lib.hid hy1
      have HJ2 := Lib.hid hy2
      clear hj1 hy0 hy1 hy2 hbc
      go_upto_region 14 with (first
        | (at_builtin; refine app_list rfl (.const (.slice none 0 0)) (.tmp 54) w3.heap.size _ 26 76 rfl j0 (.agg #[.int .i64 0, .int .i64 0, .int .i64 0, .int .i64 0, .int .i64 0, .int .i64 0, .int .i64 0]) 7 56 Tryz.underlying26 HJ.out HJ0.out HJ1.out HJ2.out rfl (by omega) (.slice none 0 0) 0 [] rfl (own_nil _ _ _ _) A a.e.length vc (av a.e) rfl HE4.out (av_one _) (by omega) (by omega) (by simp) ?_; intro v1 w5 hown1 hgr1 _; rw [Nat.zero_add, List.nil_append] at hown1; obtain ⟨A2, c2, rfl⟩ := own_form hown1; have O5 := Lib.hid hown1; have hb45 := (Below.refl (w3.alloc (.cells (ge a ⟨A, vc⟩) 28)).heap.size (w3.alloc (.cells (ge a ⟨A, vc⟩) 28))).grown hgr1 (Nat.le_refl _) (fun k e => by cases e); have C5 := Lib.hid ((hb45.block _ lC).trans HC4.out); have B5 := Lib.hid (HB34.out.trans (hb45.mono (by simp <;> omega))); clear hown1 hgr1 hb45)
        | (at_builtin; refine wpList_append_own _ rfl (.tmp 55) (.tmp 60) 26 rfl w3.heap.size 76 j0 (.agg #[.int .i64 0, .int .i64 0, .int .i64 0, .int .i64 0, .int .i64 0, .int .i64 0, .int .i64 0]) 7 56 Tryz.underlying26 HJ.out HJ0.out HJ1.out HJ2.out rfl (by decide) _ a.e.length (av a.e) rfl (O5.out.alloc _) ⟨w5.heap.size, 0, none⟩ 1 1 [.int .i64 (lt : Int), .int .i64 7, .int .i64 (o : Int), .int .i64 0, .int .i64 0, .int .i64 0, .int .i64 (f : Int)] rfl rfl (World.news_of_block (heap_alloc_new w5 _)) (by simp [Value.oneCell']) (by unfold maxLen; omega) (by omega) (by have := B5.out.size; simp; omega) ?_; intro v' w12 hown hgr _; obtain ⟨A3, c3, rfl⟩ := own_form hown; have HCAP := Lib.hid (own_cap hown); have HCL := Lib.hid (more_close (x := ⟨(lt : Int), 7, (o : Int), 0, 0, 0, (f : Int)⟩) (WD := w3) (C := w3.heap.size) (vc := vc) (Nat.le_refl _) (B5.out.trans ((box_below w5 _).mono B5.out.size)) (Nat.le_refl _) ((heap_alloc_old w5 _ (row_lt C5.out)).trans C5.out) (O5.out.alloc _) hgr hown); clear hown hgr; obtain ⟨r0, r1⟩ := geCells HCL.out.1; have r2 : w12.frozen? ⟨w3.heap.size, 1, none⟩ = false := frozen_of_row _ _ _ _ _ HCL.out.1))
      obtain ⟨hc1, hc2, hc3, hc4⟩ := HCL.out
      obtain ⟨V, hV⟩ : ∃ V, w12.setCell ⟨w3.heap.size, 1, none⟩ (.slice A3 (a.e.length + 1) c3) = V := ⟨_, rfl⟩
      rw [hV] at hc2 hc3 hc4 ⊢
      have HQC := Lib.hid hc2
      have HEE := Lib.hid hc3
      have HVB := Lib.hid hc4
      have HCP := Lib.hid (show (⟨a.n, a.e ++ [⟨(lt : Int), 7, (o : Int), 0, 0, 0, (f : Int)⟩]⟩ : Es).e.length ≤ (⟨A3, c3⟩ : Ve).c by simpa using HCAP.out)
      have HFM := Lib.hid (show (#[.int .i64 a.n, .slice A3 (a.e ++ [(⟨(lt : Int), 7, (o : Int), 0, 0, 0, (f : Int)⟩ : Ac)]).length c3] : Array Value) = ge ⟨a.n, a.e ++ [⟨(lt : Int), 7, (o : Int), 0, 0, 0, (f : Int)⟩]⟩ ⟨A3, c3⟩ from rfl)
      clear hc1 hc2 hc3 hc4 hV HCL HCAP HC4 HB34 HE4 O5 C5 B5 r0 r1 r2 z0 z1 g0 g1 lC
      generalize a.e ++ [(⟨(lt : Int), 7, (o : Int), 0, 0, 0, (f : Int)⟩ : Ac)] = M at *
      obtain ⟨C, hCC⟩ : ∃ C, C = w3.heap.size := ⟨_, rfl⟩
      rw [← hCC] at HQC
      rw [← hCC]
      clear hCC
      obtain ⟨g0, g1⟩ := geCells (HQF.out _ HVB.out)
      have hho := xholds_any a ⟨A, vc⟩ f n (lt : Int) V (HEF.out _ HVB.out) HEO.out HAN.out hfn HLM.out hcap
      unfold SmPost at hho
      have hm64 := cnt_le (fun c : Nat => wB a (c : Int) (lt : Int) f) 64
      have HAT := Lib.hid (fun j (hj : j < cnt (fun c : Nat => wB a (c : Int) (lt : Int) f) 64) => (show (idx (fun c : Nat => wB a (c : Int) (lt : Int) f) 64).getD j 0 < 64 ∧ wB a (((idx (fun c : Nat => wB a (c : Int) (lt : Int) f) 64).getD j 0 : Nat) : Int) (lt : Int) f = true from at_idx hj))
      generalize cnt (fun c : Nat => wB a (c : Int) (lt : Int) f) 64 = m at *
      generalize idx (fun c : Nat => wB a (c : Int) (lt : Int) f) 64 = LC at *
      have HHO := Lib.hid hho
      clear hho
      go_wp2_with (go_at_call 36; rw [HFE.out]; refine HHO.out.mono ?_; rintro e VH ⟨X, xc, rfl, hown, hbh⟩; have HVH := Lib.hid (HVB.out.trans (hbh.mono HVB.out.size)); have RX := Lib.hid ((row_of_own hown).base (Nat.zero_le _)); have HQH := Lib.hid ((hbh.block _ (row_lt HQC.out)).trans HQC.out); have HEH := Lib.hid (Row.below HEE.out hbh); clear hown hbh g0 g1)
      go_loopw [68] (fun ii wr => ∃ i : Nat, i ≤ m ∧ ii = .int .i64 (i : Int) ∧ Below VH.heap.size VH wr) (fun ii _ => m - (intOf ii).toNat)
      case atStart => exact ⟨0, by omega, rfl, Below.refl _ _⟩
      case round =>
        obtain ⟨i, hi, rfl, hbl⟩ := hrel
        rename World => wt
        have HBL := Lib.hid hbl
        have BT := Lib.hid (HVH.out.trans (hbl.mono HVH.out.size))
        clear hbl
        by_cases hlt : i < m
        · obtain ⟨b, off, hX, -, -, y0⟩ := (RX.out.below HBL.out).int hlt
          subst hX
          have i0 : (0 : Int) ≤ (i : Int) := by omega
          have i1 : (i : Int) < (m : Int) := by omega
          obtain ⟨hc64, hcw⟩ := HAT.out i hlt
          generalize LC.getD i 0 = c at *
          have HCC := Lib.hid (fun p h => HCI.out c p hcw h)
          obtain ⟨g0, g1⟩ := gdCells (HDQ.out _ BT.out)
          clear hcw
          go_wp2_with fail
          clear g0 g1
          go_loopw [75] (fun pp wr => ∃ p : Nat, p ≤ d.k.length ∧ pp = .int .i64 (p : Int) ∧ Below wt.heap.size wt wr) (fun pp _ => d.k.length - (intOf pp).toNat)
          case atStart => exact ⟨0, by omega, rfl, Below.refl _ _⟩
          case round =>
            obtain ⟨p, hp, rfl, hbl⟩ := hrel
            rename World => wv
            have HBV := Lib.hid hbl
            have BV := Lib.hid (BT.out.trans (hbl.mono BT.out.size))
            have HV2 := Lib.hid (HBL.out.trans (hbl.mono HBL.out.size))
            clear hbl
            by_cases hlp : p < d.k.length
            · have p0 : (0 : Int) ≤ (p : Int) := by omega
              have p1 : (p : Int) < (d.k.length : Int) := by omega
              have HKP := Lib.hid (fun w' (hw : Below wv.heap.size wv w') => (⟨gdCells (HDQ.out _ (BV.out.trans (hw.mono BV.out.size))), geCells (((HV2.out.trans (hw.mono HV2.out.size)).block _ (row_lt HQH.out)).trans HQH.out)⟩ : (w'.cell? ⟨Q, 0, none⟩ = some (.slice D1 d.k.length dc1) ∧ w'.cell? ⟨Q, 1, none⟩ = some (.slice D2 d.e.length dc2)) ∧ (w'.cell? ⟨C, 0, none⟩ = some (.int .i64 a.n) ∧ w'.cell? ⟨C, 1, none⟩ = some (.slice A3 M.length c3))))
              obtain ⟨⟨k1, k2⟩, ⟨k3, k4⟩⟩ := HKP.out _ (Below.refl _ _)
              have hma := fun w' (hw : Below wv.heap.size wv w') => rmay_any d ⟨D1, dc1, D2, dc2⟩ ⟨a.n, M⟩ ⟨A3, c3⟩ p o lt w' (HDF.out _ (BV.out.trans (hw.mono BV.out.size))) HDO.out (Row.below (Row.below HEH.out HV2.out) hw) OK2.out (by show (o : Int) < a.n; rw [HAN.out]; omega) HCP.out
              have hcd := fun w' (hw : Below wv.heap.size wv w') => xcould_any d ⟨D1, dc1, D2, dc2⟩ ⟨a.n, M⟩ ⟨A3, c3⟩ n (c : Int) (p : Int) lt w' (HDF.out _ (BV.out.trans (hw.mono BV.out.size))) HDO.out (Row.below (Row.below HEH.out HV2.out) hw) OK2.out HAN.out ⟨by omega, by omega⟩ (by omega) (by omega)
              have hsi := fun w' (hw : Below wv.heap.size wv w') => xSince_is d ⟨D1, dc1, D2, dc2⟩ ⟨a.n, M⟩ ⟨A3, c3⟩ n (c : Int) (p : Int) w' (HDF.out _ (BV.out.trans (hw.mono BV.out.size))) HDO.out (Row.below (Row.below HEH.out HV2.out) hw) OK2.out HAN.out ⟨by omega, by omega⟩ (by omega)
              have hcc := HCC.out p
              generalize mayB d ⟨a.n, M⟩ p o lt = mb at *
              generalize xwB d ⟨a.n, M⟩ n (c : Int) (p : Int) lt = xb at *
              generalize siF d ⟨a.n, M⟩ n (c : Int) (p : Int) = so at *
              cases mb with
              | false =>
                have HMA := Lib.hid hma
                have HSI := Lib.hid hsi
                generalize on so = sv at *
                generalize so.isSome = sb at *
                clear hma hcd hsi hcc
                go_wp2_with (first
                  | (go_at_call 14; rw [HFD.out, HFM.out]; (with_reducible refine (HMA.out _ (Below.refl _ _)).mono ?_); rintro e wr1 ⟨rfl, hb1⟩; have BB1 := Lib.hid hb1; clear hb1 k1 k2 k3 k4; obtain ⟨⟨k1, k2⟩, ⟨k3, k4⟩⟩ := HKP.out _ BB1.out)
                  | (go_at_call 34; rw [HFD.out, HFM.out]; (with_reducible refine (HSI.out _ BB1.out).mono ?_); rintro e wr2 ⟨rfl, hb2⟩; have BB2 := Lib.hid (BB1.out.trans (hb2.mono BB1.out.size)); clear hb2 k1 k2 k3 k4; obtain ⟨⟨k1, k2⟩, ⟨k3, k4⟩⟩ := HKP.out _ BB2.out)
                  | (go_at_call 14; rw [HFD.out, HFM.out]; (with_reducible refine (HMA.out _ BB2.out).mono ?_); rintro e wr3 ⟨rfl, hb3⟩; have BB3 := Lib.hid (BB2.out.trans (hb3.mono BB2.out.size)); clear hb3 k1 k2 k3 k4))
                exact ⟨⟨p + 1, by omega, by go_num, HBV.out.trans (BB3.out.mono HBV.out.size)⟩, by simp [intOf]; omega⟩
              | true =>
                obtain ⟨rfl, T, rfl, hT⟩ := hcc rfl
                have HMA := Lib.hid hma
                have HCD := Lib.hid hcd
                have HSI := Lib.hid (fun w' hw => (show Calls Tryz.prog 34 #[.agg (gd d ⟨D1, dc1, D2, dc2⟩), .agg (ge ⟨a.n, M⟩ ⟨A3, c3⟩), .int .i64 (c : Int), .int .i64 (p : Int)] w' fun e w2 => e = .returned (.tuple #[.int .i64 (T : Int), .bool true]) ∧ Below w'.heap.size w' w2 from hsi w' hw))
                have dt : decide ((lt : Int) < (T : Int)) = false := decide_eq_false (by omega)
                clear hma hcd hsi hcc
                go_wp2_with (first
                  | (go_at_call 14; rw [HFD.out, HFM.out]; (with_reducible refine (HMA.out _ (Below.refl _ _)).mono ?_); rintro e wr1 ⟨rfl, hb1⟩; have BB1 := Lib.hid hb1; clear hb1 k1 k2 k3 k4; obtain ⟨⟨k1, k2⟩, ⟨k3, k4⟩⟩ := HKP.out _ BB1.out)
                  | (go_at_call 37; rw [HFD.out, HFM.out]; (with_reducible refine (HCD.out _ BB1.out).mono ?_); rintro e wrc ⟨rfl, hbc⟩; have BBC := Lib.hid (BB1.out.trans (hbc.mono BB1.out.size)); clear hbc k1 k2 k3 k4; obtain ⟨⟨k1, k2⟩, ⟨k3, k4⟩⟩ := HKP.out _ BBC.out)
                  | (go_at_call 34; rw [HFD.out, HFM.out]; (with_reducible refine (HSI.out _ BBC.out).mono ?_); rintro e wr2 ⟨rfl, hb2⟩; have BB2 := Lib.hid (BBC.out.trans (hb2.mono BBC.out.size)); clear hb2 k1 k2 k3 k4; obtain ⟨⟨k1, k2⟩, ⟨k3, k4⟩⟩ := HKP.out _ BB2.out)
                  | (go_at_call 14; rw [HFD.out, HFM.out]; (with_reducible refine (HMA.out _ BB2.out).mono ?_); rintro e wr3 ⟨rfl, hb3⟩; have BB3 := Lib.hid (BB2.out.trans (hb3.mono BB2.out.size)); clear hb3 k1 k2 k3 k4))
                exact ⟨⟨p + 1, by omega, by go_num, HBV.out.trans (BB3.out.mono HBV.out.size)⟩, by simp [intOf]; omega⟩
            · obtain rfl : d.k.length = p := by omega
              go_wp2_with fail
              exact ⟨⟨i + 1, by omega, by go_num, HV2.out⟩, by simp [intOf]; omega⟩
        · obtain rfl : m = i := by omega
          go_wp2_with (go_at_call 26; refine (xawake_any _).mono ?_; rintro e w9 ⟨rfl, hb9⟩; have HB9 := Lib.hid ((HBF.out _ BT.out).trans (hb9.mono (HBF.out _ BT.out).size)); clear hb9)
          go_ret
          exact ⟨by first | rfl | simp, HB9.out⟩

/-! ### THE ROW's STEP: WRITTEN OUT: LEAVE IT -/
set_option maxRecDepth 100000 in
theorem lifted (os : Os) (started : os.Started) (H : Type) (enc : TypeId × Value → H) :
    ReturnsInHanded {} Tryz.checked os 8 .any (Rows.exposureCopiesSpec.pre6 enc Tryz.prog Tryz.f8 Rows.exposureCopiesRow.domain false) (Rows.exposureCopiesSpec.post enc Tryz.prog Tryz.f8 false true false false) := by
  refine returnsInHanded_of_change (C := Tryz.checked) own started (by kernel_rfl) Tryz.func8
    (ChangeSpec.witness6 (enc := enc) (C := Tryz.checked) false ⟨#[], #[.slice none 0 0], []⟩ 8 (by kernel_rfl) (by kernel_rfl) (by kernel_rfl) (by kernel_rfl)) ?_
  intro W base args ds gs before hval0 hW hcnd _
  have hval : ∀ (j : Nat) t v, Tryz.f8.params[j]? = some t → args[j]? = some v → Value.okWide Tryz.prog W .any base t v := hval0
  have hW' := hW
  obtain ⟨p, q, hA0, hV, rfl, hfz, hnd⟩ := hW
  have hA : DataW.TrodAll enc Tryz.prog W 0 (fun _ => true) true Tryz.f8.params.toList args.toList ds p := hA0
  rw [Tryz.params8] at hA hval
  obtain ⟨v0, vs0, d0, ds0, p0, q0, hargs, rfl, rfl, h0, r0⟩ := trodAll_cons hA
  obtain ⟨rfl, rfl, rfl⟩ := trodAll_nil r0
  obtain rfl : args = #[v0] := by cases args; simp_all
  obtain ⟨rfl, rfl⟩ := trodVars_none hV
  obtain ⟨a0, len0, cap0, rfl⟩ := okWide_slice Tryz.underlying22 (hval 0 22 v0 rfl rfl)
  have k0 := h0
  have lt0 : ∀ x ∈ p0, x.block < W.heap.size := by obtain ⟨m, hm⟩ := k0; exact DataW.trod_lt m _ _ _ hm
  obtain ⟨z0, w0⟩ : ∃ zs, IsRow .i64 W a0 len0 cap0 zs := by
    obtain ⟨fuel, hf⟩ := h0
    rcases open_ints Tryz.underlying22 Tryz.underlying3 (by kernel_rfl) hf with ⟨hcs, _⟩ | ⟨x, l, c, zs, hcs, _, hl, hm, hz, _, hcell, hwz⟩
    · simp [Value.cells] at hcs
      obtain ⟨rfl, rfl, rfl⟩ := hcs
      exact ⟨[], .inl ⟨rfl, rfl, rfl, rfl⟩⟩
    · simp [Value.cells] at hcs
      obtain ⟨rfl, rfl, rfl⟩ := hcs
      exact ⟨zs, .inr ⟨_, rfl, hl, hm, by simpa using hz, hcell, hwz⟩⟩
  clear hA0 hval0
  refine (walk a0 len0 cap0 z0 W w0).mono fun e W' ⟨he, bel⟩ => ?_
  subst he
  exact ⟨_, rfl, _, _, _, [], _, [], hW', trodAll_mk1 (shut_bool Tryz.underlying4 _), (trodAll_cons_mk (Below.trod laidOut (by kernel_rfl) (of_decide_eq_true (by kernel_rfl)) k0 bel lt0) trodAll_mk0), rfl, bel.frame _, fun h => by cases h⟩

theorem over : Rows.exposureCopiesRow.holds Tryz.pinned (OpenSpec.ofChange Rows.exposureCopiesSpec) :=
  OpenClaim.holds_of_wide 8 Tryz.f8 rfl rfl rfl rfl rfl rfl rfl ⟨rfl, rfl, rfl, rfl, rfl⟩ rfl rfl rfl rfl rfl (by kernel_rfl) Tryz.func8 (by kernel_rfl)
    (of_decide_eq_true (by kernel_rfl)) (by unfold Func.isWrapper; first | (rw [if_pos (by decide +kernel)]; kernel_rfl) | (rw [if_neg (by decide +kernel)]; exact ⟨rfl, rfl⟩))
    (fun os started H enc _ => lifted os started H enc)

/-- ████ THE STATEMENT ████ -/
theorem proved : Rows.ExposureCopiesSaid := over
#print axioms proved
end Go.Proofs.YtgknfkmojhganaaGreat.exposureCopies
