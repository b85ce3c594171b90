/-
  The Go function leakresponse/leakresponselaw28.ReadersGrow returns true for every list of numbers, and leaves what was there as it was; no conditions. A grant more lets the granted ones in, and nobody out.
-/
import Derived.Test.YtgknfkmojhganaaRdAll
import Derived.Test.YtgknfkmojhganaaRows
import Derived.Test.YtgknfkmojhganaaRdK
import Derived.Test.YtgknfkmojhganaaCoT
import Derived.BigQuiet
import Derived.WalkKit
import Derived.ProofKit
import Derived.OpenShut
import Derived.ShutString
import Derived.ChangeOld
import Derived.Below
import Derived.StillTailTactics
import Derived.Deep.CutBlock
namespace Go.Proofs.Ytgknfkmojhganaa.readersGrow
open Go.ChangeShapes Go.WideShapes Go.ChangeAt Go.RowKit
open Go.ChangeMaps (open_string shut_string)
open Go.Proofs.Ytgknfkmojhganaa.Tp
open Go.Proofs.Ytgknfkmojhganaa.Di
set_option linter.unusedVariables false

set_option maxRecDepth 100000 in
set_option maxHeartbeats 16000000 in
theorem walk (a0 : Option Addr) (len0 cap0 : Nat) (z0 : List Int) (w : World) (w0 : IsRow .i64 w a0 len0 cap0 z0) :
    Calls Try.prog 5 #[.slice a0 len0 cap0] w fun e w' => e = .returned (.bool true) ∧ Below w.heap.size w w' := by
  have hm := w0.at_.1
  unfold maxLen at hm
  have HTP := Lib.hid (tape_new w0)
  have HBX := Lib.hid (box_below w (.cells #[.slice a0 len0 cap0, .int .i64 0] 26))
  clear w0
  by_cases hlen : 400 < len0
  · have hl0 : (400 : Int) < (len0 : Int) := by omega
    go_enter Try.func5, Try.ntmps5
    go_wp2_with (go_at_call 8; refine (awake_any _).mono ?_; rintro e w1 ⟨rfl, hb1⟩; have HB1 := Lib.hid hb1; clear hb1)
    go_ret
    exact ⟨rfl, HB1.out⟩
  · have hl0 : (len0 : Int) ≤ (400 : Int) := by omega
    go_enter Try.func5, Try.ntmps5
    go_wp2_with fail
    refine (directory_any w.heap.size _ HTP.out (by simp)).mono ?_
    rintro e w1 ⟨d, ⟨D1, dc1, D2, dc2⟩, rfl, hmk, hrl, hg1, ht1⟩
    have hb1 : Below w.heap.size w w1 := HBX.out.grown hg1 HBX.out.size (fun k e => by cases e; exact Nat.le_refl _)
    have hs1 := hg1.size
    simp at hs1
    have HQ := Lib.hid (heap_alloc_new w1 (.cells (gd d ⟨D1, dc1, D2, dc2⟩) 29))
    have HDL := Lib.hid ((hrl.base (show w.heap.size + 1 ≤ _ by simp)).below (box_below w1 (.cells (gd d ⟨D1, dc1, D2, dc2⟩) 29)))
    have HB1 := Lib.hid (hb1.trans ((box_below w1 (.cells (gd d ⟨D1, dc1, D2, dc2⟩) 29)).mono hb1.size))
    have HT1 := Lib.hid (tape_new2 ht1 (.cells (gd d ⟨D1, dc1, D2, dc2⟩) 29))
    have HMK := Lib.hid hmk
    have hn1 := hmk.n1
    have hn7 := hmk.n7
    have he11 := hmk.e11
    have lT1 : w.heap.size < w1.heap.size := by omega
    clear hrl hg1 ht1 hb1 hmk
    obtain ⟨g0, g1⟩ := gdCells HQ.out
    have HFD := Lib.hid (show (#[.slice D1 d.k.length dc1, .slice D2 d.e.length dc2] : Array Value) = gd d ⟨D1, dc1, D2, dc2⟩ from rfl)
    go_wp2_with (with_reducible (show wpList _ _ _ (⟨none, .store 29 (.tmp 4) (.tmp 23), _, _, _, _⟩ :: _) _ _); refine wpList_store_row (o := ⟨none, .store 29 (.tmp 4) (.tmp 23), _, _, _, _⟩) rfl 29 (.tmp 4) (.tmp 23) rfl w1.heap.size (gd d ⟨D1, dc1, D2, dc2⟩) rfl rfl 29 zD (heap_alloc_new _ _) (info25 _ _) rfl (gd_one _ _) ?_; rw [new_set])
    have lQ : w1.heap.size < (w1.alloc (.cells (gd d ⟨D1, dc1, D2, dc2⟩) 29)).heap.size := row_lt HQ.out
    generalize w1.alloc (.cells (gd d ⟨D1, dc1, D2, dc2⟩) 29) = WA at *
    generalize w1.heap.size = Q at *
    rw [HFD.out]
    refine (estate_any w.heap.size d ⟨D1, dc1, D2, dc2⟩ WA HT1.out (by omega) hn1 hn7).mono ?_
    rintro e w2 ⟨a, ⟨A, vc⟩, rfl, hme, hel, hg2, ht2⟩
    have hb2 : Below w.heap.size w w2 := HB1.out.grown hg2 HB1.out.size (fun k e => by cases e; exact Nat.le_refl _)
    have hs2 : w.heap.size + 1 ≤ w2.heap.size := by have := hg2.size; omega
    have hq2 := (hg2.block _ lQ (fun e => by injection e; omega)).trans HQ.out
    have hbe := box_below w2 (.cells (ge a ⟨A, vc⟩) 33)
    have HQ2 := Lib.hid ((hbe.block _ (row_lt hq2)).trans hq2)
    have HD2 := Lib.hid ((HDL.out.grown hg2 (fun g e => by cases e; omega)).below hbe)
    have HR := Lib.hid (heap_alloc_new w2 (.cells (ge a ⟨A, vc⟩) 33))
    have HEL := Lib.hid (Row.below (hel.base (show w.heap.size + 1 ≤ _ by omega)) hbe)
    have HB2 := Lib.hid (hb2.trans (hbe.mono hb2.size))
    have HT2 := Lib.hid (tape_new2 ht2 (.cells (ge a ⟨A, vc⟩) 33))
    have HME := Lib.hid hme
    have ha1 := hme.ok.n1
    have ha4 := hme.n4
    have ha15 := hme.m15
    have hRs : Q < w2.heap.size := row_lt hq2
    clear hel hg2 ht2 hb2 hme HB1 HT1 HBX HTP hbe hq2 HQ HDL g0 g1
    obtain ⟨g0, g1⟩ := gdCells HQ2.out
    obtain ⟨c0, c1⟩ := geCells HR.out
    have HFE := Lib.hid (show (#[.int .i64 a.n, .slice A a.e.length vc] : Array Value) = ge a ⟨A, vc⟩ from rfl)
    go_wp2_with (with_reducible (show wpList _ _ _ (⟨none, .store 33 (.tmp 5) (.tmp 26), _, _, _, _⟩ :: _) _ _); refine wpList_store_row (o := ⟨none, .store 33 (.tmp 5) (.tmp 26), _, _, _, _⟩) rfl 33 (.tmp 5) (.tmp 26) rfl w2.heap.size (ge a ⟨A, vc⟩) rfl rfl 33 zE (heap_alloc_new _ _) (infoEs _ _) rfl (ge_one _ _) ?_; rw [new_set])
    have lR : w2.heap.size < (w2.alloc (.cells (ge a ⟨A, vc⟩) 33)).heap.size := row_lt HR.out
    generalize w2.alloc (.cells (ge a ⟨A, vc⟩) 33) = WB at *
    generalize w2.heap.size = R at *
    have lQB : Q < WB.heap.size := row_lt HQ2.out
    have HDO := Lib.hid HMK.out.ok
    have HEO := Lib.hid HME.out.ok
    obtain ⟨n, hn⟩ : ∃ n : Nat, a.n = (n : Int) := ⟨a.n.toNat, by omega⟩
    have hn6 : n ≤ 16 := by omega
    have HAN := Lib.hid hn
    have HOK := Lib.hid HEO.out
    obtain ⟨lt, hlt, hlt2, hltm⟩ := Eok.last29 HME.out
    have HLT := Lib.hid hlt
    have HLM := Lib.hid hltm
    clear hlt hltm
    have hnx := fun w' (h : TapeOk w' w.heap.size) => next_any w.heap.size a.n w' h (by omega) (by omega)
    have hnx3 := fun w' (h : TapeOk w' w.heap.size) => next_any w.heap.size d.k.length w' h (by omega) (by omega)
    have HNX1 := Lib.hid hnx
    have HNX3 := Lib.hid hnx3
    have HM1 := Lib.hid True.intro
    have hk : ∀ w', WB.grownBy w' (some w.heap.size) → TapeOk w' w.heap.size → w'.cell? ⟨R, 0, none⟩ = some (.int .i64 a.n) ∧ w'.cell? ⟨Q, 0, none⟩ = some (.slice D1 d.k.length dc1) ∧ WB.grownBy w' (some w.heap.size) ∧ TapeOk w' w.heap.size := fun w' hg ht => ⟨(geCells ((hg.block _ lR (fun e => by injection e; omega)).trans HR.out)).1, (gdCells ((hg.block _ lQB (fun e => by injection e; omega)).trans HQ2.out)).1, hg, ht⟩
    have HK := Lib.hid hk
    have gd0 : WB.grownBy WB.drew (some w.heap.size) := gb_drewN WB 1 _
    have td0 : TapeOk WB.drew w.heap.size := HT2.out
    clear hnx hnx3 hk hn
    go_region_held3 (fun w' => w'.cell? ⟨R, 0, none⟩ = some (.int .i64 a.n) ∧ w'.cell? ⟨Q, 0, none⟩ = some (.slice D1 d.k.length dc1) ∧ WB.grownBy w' (some w.heap.size) ∧ TapeOk w' w.heap.size)
      (first | (with_reducible assumption) | (with_reducible exact HK.out _ gd0 td0) | (with_reducible exact HK.out _ ga ta) | (with_reducible exact HK.out _ gn tn))
      (first
        | (go_at_call 11; clear HM1; (with_reducible refine (HNX1.out _ ?_).mono ?_); (go_split_ands; with_reducible assumption); rintro e wm ⟨zi, a1, b1, rfl, hga, hta⟩; obtain ⟨P, rfl⟩ : ∃ z : Nat, zi = z := ⟨zi.toNat, by omega⟩; go_split_ands; have ga : WB.grownBy wm (some w.heap.size) := gb_trans (by with_reducible assumption) hga; have ta := hta; clear hga hta)
        | (go_at_call 11; (with_reducible refine (HNX3.out _ ?_).mono ?_); (go_split_ands; with_reducible assumption); rintro e w3 ⟨zj, a2, b2, rfl, hgn, htn⟩; obtain ⟨q, rfl⟩ : ∃ z : Nat, zj = z := ⟨zj.toNat, by omega⟩; go_split_ands; have gn : WB.grownBy w3 (some w.heap.size) := gb_trans (by with_reducible assumption) hgn; have tn := htn; clear hgn htn))
    go_split_ands
    have hgo : WB.grownBy w3 (some w.heap.size) := gn
    have hqd := (hgo.block _ lQB (fun e => by injection e; omega)).trans HQ2.out
    have hqe := (hgo.block _ lR (fun e => by injection e; omega)).trans HR.out
    have hdd := HD2.out.grown hgo (fun g e => by cases e; omega)
    have hee := Row.grown HEL.out hgo (fun g e => by cases e; omega)
    have hbb := HB2.out.grown hgo HB2.out.size (fun k e => by cases e; exact Nat.le_refl _)
    have hPn : P < n := by have := HAN.out; omega
    have hqn : q < d.k.length := by omega
    clear ga ta gn tn hgo gd0 td0 a1 b1 a2 b2 HK HNX1 HNX3 HQ2 HR HD2 HEL HB2 HT2 g0 g1 c0 c1
    have HDQ := Lib.hid (fun wr (h : Below w3.heap.size w3 wr) => (h.block _ (row_lt hqd)).trans hqd)
    have HQF := Lib.hid (fun wr (h : Below w3.heap.size w3 wr) => (h.block _ (row_lt hqe)).trans hqe)
    have HDF := Lib.hid (fun wr (h : Below w3.heap.size w3 wr) => (hdd.below h).base (Nat.zero_le _))
    have HEF := Lib.hid (fun wr (h : Below w3.heap.size w3 wr) => Row.base (B' := 0) (Row.below hee h) (Nat.zero_le _))
    have HBF := Lib.hid (fun wr (h : Below w3.heap.size w3 wr) => hbb.trans (h.mono hbb.size))
    have lQ3 : Q < w3.heap.size := row_lt hqd
    have lR3 : R < w3.heap.size := row_lt hqe
    obtain ⟨g0, g1⟩ := geCells hqe
    have HE3 := Lib.hid (HEF.out w3 (Below.refl _ _))
    clear hqd hqe hdd hee hbb
    go_upto_if 39 with fail
    go_cut [8] from 36 to 48 (fun s6 wx => s6 = .int .i64 (lt : Int) ∧ w3 = wx)
    case first =>
      by_cases hE : a.e.length = 0
      · have hd : decide ((0 : Int) < (a.e.length : Int)) = false := decide_eq_false (by omega)
        have hd2 : ¬ 0 < a.e.length := by omega
        have hl0 : (0 : Int) = (lt : Int) := by rw [← HLT.out]; unfold lastA; rw [if_pos hE]
        have HL0 := Lib.hid hl0
        clear hl0 hE
        go_wp2_with fail
        go_meet
        case rel => exact ⟨by rw [HL0.out], rfl⟩
      · have hd : decide ((0 : Int) < (a.e.length : Int)) = true := decide_eq_true (by omega)
        have hd2 : 0 < a.e.length := by omega
        obtain ⟨m, hm⟩ : ∃ m, a.e.length = m + 1 := ⟨a.e.length - 1, by omega⟩
        obtain ⟨be, oe, hA2, -, -, hac⟩ := Row.ac HE3.out (show m < a.e.length by omega)
        have hA2 : A = some ⟨be, oe, none⟩ := hA2
        obtain ⟨y0, -, -, -, -, -, -⟩ := hac
        have hy : (ag a.e m).t = (lt : Int) := by rw [← HLT.out]; unfold lastA; rw [if_neg (by omega), show a.e.length - 1 = m by omega]
        rw [hy] at y0
        have hw1 : IntKind.i64.wrap ((a.e.length : Int) - 1) = (m : Int) := by rw [IntWalk.i64_in _ (by omega)]; omega
        have hw2 : (a.e.length : Int) - 1 = (m : Int) := by omega
        have m2' : (m : Int) ≤ 20 := by omega
        have m0' : (0 : Int) ≤ (m : Int) := by omega
        have m1' : (m : Int) < (a.e.length : Int) := by omega
        subst hA2
        clear hE hm hy
        go_wp2_with fail
        go_meet
        case rel => exact ⟨rfl, rfl⟩
    case rest =>
    obtain ⟨rfl, rfl⟩ := hcut
    have B0E := Lib.hid (Below.refl w3.heap.size w3)
    obtain ⟨j0, hj1, hy0, hy1, hy2⟩ := info_parts zinfoAc
    have HJ := Lib.hid hj1
    have HJ0 := Lib.hid hy0
    have HJ1 := Lib.hid hy1
    have HJ2 := Lib.hid hy2
    clear hj1 hy0 hy1 hy2
    obtain ⟨g0, g1⟩ := geCells (HQF.out w3 B0E.out)
    have hbc := box_below w3 (.cells (ge a ⟨A, vc⟩) 33)
    have HC4 := Lib.hid (heap_alloc_new w3 (.cells (ge a ⟨A, vc⟩) 33))
    have lC := row_lt HC4.out
    have lQ4 : R < w3.heap.size := row_lt (HQF.out w3 B0E.out)
    have z0 := fun o => (World.cell?_alloc_lt w3 o _ lQ4).trans g0
    have z1 := fun o => (World.cell?_alloc_lt w3 o _ lQ4).trans g1
    have HB34 := Lib.hid (B0E.out.trans (hbc.mono B0E.out.size))
    have HE4 := Lib.hid (HEF.out _ HB34.out)
    have hsz0 : w3.heap.size ≤ w3.heap.size := B0E.out.size
    have OKE := Lib.hid (show Eok ⟨a.n, a.e ++ [⟨(lt : Int), 1, (P : Int), (q : Int), 0, 0, 0⟩]⟩ from HOK.out.add (by omega) ⟨by show (0 : Int) ≤ (lt : Int); omega, by show (lt : Int) ≤ _; omega, by show (0 : Int) ≤ (P : Int); omega, by rw [HAN.out]; show (P : Int) < (n : Int); omega, .inl ⟨.inl rfl, by show (0 : Int) ≤ (q : Int); omega, by show (q : Int) < 24; omega, rfl, rfl, rfl⟩⟩ (fun j hj => HLM.out j hj))
    have RLE := Lib.hid (fun (x : Int) (p : Nat) => (show (0 : Nat) = 0 from rfl))
    clear hbc
    go_wp2_with (first
      | (at_builtin; refine app_list rfl (.const (.slice none 0 0)) (.tmp 51) w3.heap.size _ 31 57 rfl j0 (.agg #[.int .i64 0, .int .i64 0, .int .i64 0, .int .i64 0, .int .i64 0, .int .i64 0, .int .i64 0]) 7 56 Try.underlying31 HJ.out HJ0.out HJ1.out HJ2.out rfl (by omega) (.slice none 0 0) 0 [] rfl (own_nil _ _ _ _) A a.e.length vc (av a.e) rfl HE4.out (av_one _) (by omega) (by omega) (by simp) ?_; intro v1 w5 hown1 hgr1 _; rw [Nat.zero_add, List.nil_append] at hown1; obtain ⟨A2, c2, rfl⟩ := own_form hown1; have O5 := Lib.hid hown1; have hb45 := (Below.refl (w3.alloc (.cells (ge a ⟨A, vc⟩) 33)).heap.size (w3.alloc (.cells (ge a ⟨A, vc⟩) 33))).grown hgr1 (Nat.le_refl _) (fun k e => by cases e); have C5 := Lib.hid ((hb45.block _ lC).trans HC4.out); have B5 := Lib.hid (HB34.out.trans (hb45.mono (by simp <;> omega))); have hs5 : w3.heap.size ≤ w5.heap.size := Nat.le_trans (Nat.le_of_lt lC) hb45.size; clear hown1 hgr1 hb45)
      | (at_builtin; refine wpList_append_own _ rfl (.tmp 52) (.tmp 57) 31 rfl w3.heap.size 57 j0 (.agg #[.int .i64 0, .int .i64 0, .int .i64 0, .int .i64 0, .int .i64 0, .int .i64 0, .int .i64 0]) 7 56 Try.underlying31 HJ.out HJ0.out HJ1.out HJ2.out rfl (by decide) _ a.e.length (av a.e) rfl (O5.out.alloc _) ⟨w5.heap.size, 0, none⟩ 1 1 [.int .i64 (lt : Int), .int .i64 1, .int .i64 (P : Int), .int .i64 (q : Int), .int .i64 0, .int .i64 0, .int .i64 0] rfl rfl (World.news_of_block (heap_alloc_new w5 _)) (by simp [Value.oneCell']) (by unfold maxLen; omega) (by omega) (by have := B5.out.size; simp; omega) ?_; intro v' w12 hown hgr _; obtain ⟨A3, c3, rfl⟩ := own_form hown; have Q12 := Lib.hid (cp_q C5.out O5.out hgr); have HADD := Lib.hid (cp_add (x := ⟨(lt : Int), 1, (P : Int), (q : Int), 0, 0, 0⟩) C5.out O5.out hgr hown); have B12 := Lib.hid (far_below B5.out O5.out hgr hsz0); clear hown hgr; obtain ⟨r0, r1⟩ := geCells Q12.out; have r2 : w12.frozen? ⟨w3.heap.size, 1, none⟩ = false := frozen_of_row _ _ _ _ _ Q12.out; obtain ⟨VE, hV⟩ : ∃ V, w12.setCell ⟨w3.heap.size, 1, none⟩ (.slice A3 (a.e.length + 1) c3) = V := ⟨_, rfl⟩; have CVE := Lib.hid (show CRel w3.heap.size w3.heap.size a.n (a.e ++ [⟨(lt : Int), 1, (P : Int), (q : Int), 0, 0, 0⟩]) VE by rw [← hV]; exact HADD.out); have BVE := Lib.hid (show Below w3.heap.size w3 VE by rw [← hV, setCell_eq_setRow _ _ _ _ _ _ _ Q12.out]; exact below_setRow B12.out (by omega) _); clear z0 z1 g0 g1; obtain ⟨g0, g1⟩ := geCells (HQF.out VE BVE.out)))
    obtain ⟨A7, c7, hc7, ho7⟩ := CVE.out
    have HQE := Lib.hid hc7
    have HEE := Lib.hid (show EL VE 0 ⟨a.n, a.e ++ [⟨(lt : Int), 1, (P : Int), (q : Int), 0, 0, 0⟩]⟩ ⟨A7, c7⟩ from Row.base (B' := 0) (row_of_own ho7) (Nat.zero_le _))
    clear hc7 ho7 HC4 HE4 HB34 lC
    have HMR := Lib.hid (fun (p T : Nat) (hT : (lt : Int) ≤ (T : Int)) => may_more (d := d) (p := p) OKE.out HOK.out (show (P : Int) < a.n by rw [HAN.out]; omega) hT hqn)
    generalize a.e ++ [(⟨(lt : Int), 1, (P : Int), (q : Int), 0, 0, 0⟩ : Ac)] = M at *
    obtain ⟨C, hCC⟩ : ∃ C, C = w3.heap.size := ⟨_, rfl⟩
    rw [← hCC] at HQE
    rw [← hCC]
    clear hCC
    have HFM := Lib.hid (show (#[.int .i64 a.n, .slice A7 M.length c7] : Array Value) = ge ⟨a.n, M⟩ ⟨A7, c7⟩ from rfl)
    have hw6 : IntKind.i64.wrap ((lt : Int) + 6) = (lt : Int) + 6 := IntWalk.i64_in _ (by omega)
    have hPa : (P : Int) < a.n := by rw [HAN.out]; omega
    go_loopw [10] (fun tt wr => ∃ k : Nat, k ≤ 6 ∧ tt = .int .i64 ((lt : Int) + (k : Int)) ∧ Below VE.heap.size VE wr) (fun tt _ => ((lt : Int) + 6 - intOf tt).toNat)
    case atStart => exact ⟨0, by omega, by simp, Below.refl _ _⟩
    case round =>
      obtain ⟨k, hk, rfl, hbl⟩ := hrel
      rename World => wt
      have HBT := Lib.hid (BVE.out.trans (hbl.mono BVE.out.size))
      have HBLT := Lib.hid hbl
      obtain ⟨T, hT⟩ : ∃ T : Nat, lt + k = T := ⟨_, rfl⟩
      have hT2 : (lt : Int) + (k : Int) = (T : Int) := by omega
      have HTT := Lib.hid hT2
      rw [hT2]
      by_cases hlk : k < 6
      · have d1 : decide ((T : Int) < (lt : Int) + 6) = true := decide_eq_true (by omega)
        have hmr := fun p => HMR.out p T (by omega)
        have HMR2 := Lib.hid hmr
        have HIU0 := Lib.hid (fun p (hp : p < d.k.length) => in_up (t := T) HDO.out hp hqn)
        have hT3 : T ≤ 2000 := by omega
        have a1 := gdCells (HDQ.out _ HBT.out)
        obtain ⟨k1, k2⟩ := a1
        clear hmr hT2 hT hbl
        go_wp2_with fail
        clear k1 k2
        go_loopw [70] (fun pp wr => ∃ p : Nat, p ≤ d.k.length ∧ pp = .int .i64 (p : Int) ∧ Below wt.heap.size wt wr) (fun pp _ => (d.k.length - (intOf pp).toNat))
        case atStart => exact ⟨0, by omega, rfl, Below.refl _ _⟩
        case round =>
          obtain ⟨p, hp, rfl, hbl⟩ := hrel
          rename World => wv
          have HBLV := Lib.hid hbl
          have HBV := Lib.hid (HBT.out.trans (hbl.mono HBT.out.size))
          by_cases hlp : p < d.k.length
          · have p0 : (0 : Int) ≤ (p : Int) := by omega
            have p1 : (p : Int) < (d.k.length : Int) := by omega
            have hgq : ∀ w', Below wv.heap.size wv w' → (w'.cell? ⟨Q, 0, none⟩ = some (.slice D1 d.k.length dc1) ∧ w'.cell? ⟨Q, 1, none⟩ = some (.slice D2 d.e.length dc2) ∧ w'.cell? ⟨R, 0, none⟩ = some (.int .i64 a.n) ∧ w'.cell? ⟨R, 1, none⟩ = some (.slice A a.e.length vc) ∧ w'.cell? ⟨C, 0, none⟩ = some (.int .i64 a.n) ∧ w'.cell? ⟨C, 1, none⟩ = some (.slice A7 M.length c7) ∧ Below wv.heap.size wv w') := fun w' hw =>
              have h3 := HBV.out.trans (hw.mono HBV.out.size)
              have a1 := gdCells (HDQ.out _ h3)
              have a2 := geCells (HQF.out _ h3)
              have a3 := geCells (((HBLT.out.trans ((hbl.trans (hw.mono hbl.size)).mono HBLT.out.size)).block _ (row_lt HQE.out)).trans HQE.out)
              ⟨a1.1, a1.2, a2.1, a2.2, a3.1, a3.2, hw⟩
            have HKP := Lib.hid hgq
            obtain ⟨k1, k2, k3, k4, k5, k6, -⟩ := hgq wv (Below.refl _ _)
            have hma := fun w' (hw : Below wv.heap.size wv w') => may_any d ⟨D1, dc1, D2, dc2⟩ a ⟨A, vc⟩ p P T w' (HDF.out _ (HBV.out.trans (hw.mono HBV.out.size))) HDO.out (HEF.out _ (HBV.out.trans (hw.mono HBV.out.size))) HOK.out hPa
            have hmm := fun w' (hw : Below wv.heap.size wv w') => may_any d ⟨D1, dc1, D2, dc2⟩ ⟨a.n, M⟩ ⟨A7, c7⟩ p P T w' (HDF.out _ (HBV.out.trans (hw.mono HBV.out.size))) HDO.out (Row.below HEE.out (HBLT.out.trans ((hbl.trans (hw.mono hbl.size)).mono HBLT.out.size))) OKE.out hPa
            have hrb := fun w' (hw : Below wv.heap.size wv w') => reader_any 0 d ⟨D1, dc1, D2, dc2⟩ p w' (HDF.out _ (HBV.out.trans (hw.mono HBV.out.size))) (by omega)
            have hin := fun w' (hw : Below wv.heap.size wv w') => rin_any d ⟨D1, dc1, D2, dc2⟩ p q T w' (HDF.out _ (HBV.out.trans (hw.mono HBV.out.size))) HDO.out hlp
            have HREL := Lib.hid (HMR2.out p)
            have HIU := Lib.hid (HIU0.out p hlp).symm
            simp only [gd, ge] at hma hmm
            generalize mayB d ⟨a.n, M⟩ p P T = mm at *
            generalize mayB d a p P T = mb at *
            generalize rB d p = rb at *
            generalize upB d T p q = ub at *
            generalize (gB d q && grB d T p q) = ib at *
            have HMA := Lib.hid hma
            have HMM := Lib.hid hmm
            have HRB := Lib.hid hrb
            have HIN := Lib.hid hin
            have bz1 : Below wv.heap.size wv wv.drew := (Below.refl wv.heap.size wv).drew
            clear hma hmm hrb hin hgq hbl
            go_wp2_with fail
            go_region_held3 (fun w' => w'.cell? ⟨Q, 0, none⟩ = some (.slice D1 d.k.length dc1) ∧ w'.cell? ⟨Q, 1, none⟩ = some (.slice D2 d.e.length dc2) ∧ w'.cell? ⟨R, 0, none⟩ = some (.int .i64 a.n) ∧ w'.cell? ⟨R, 1, none⟩ = some (.slice A a.e.length vc) ∧ w'.cell? ⟨C, 0, none⟩ = some (.int .i64 a.n) ∧ w'.cell? ⟨C, 1, none⟩ = some (.slice A7 M.length c7) ∧ Below wv.heap.size wv w')
              (first | (with_reducible assumption) | (with_reducible exact HKP.out _ (Below.refl _ _)) | (with_reducible exact HKP.out _ bz1) | (with_reducible exact HKP.out _ ba) | (with_reducible exact HKP.out _ bb))
              (first
                | (go_at_call 14; (with_reducible refine (HMA.out _ ?_).mono ?_); (go_split_ands; with_reducible assumption); rintro e wa1 ⟨rfl, hbb⟩; go_split_ands; have ba : Below wv.heap.size wv wa1 := Below.trans (by with_reducible assumption) (hbb.mono (Below.size (by with_reducible assumption))); clear hbb)
                | (go_at_call 14; (with_reducible refine (HMM.out _ ?_).mono ?_); (go_split_ands; with_reducible assumption); rintro e wa2 ⟨rfl, hbb⟩; go_split_ands; have bb : Below wv.heap.size wv wa2 := Below.trans (by with_reducible assumption) (hbb.mono (Below.size (by with_reducible assumption))); clear hbb))
            go_split_ands
            have BB := Lib.hid (show Below wv.heap.size wv wa2 from bb)
            clear ba bb bz1 k1 k2 k3 k4 k5 k6
            obtain ⟨k1, k2, -, -, -, -, -⟩ := HKP.out _ BB.out
            cases rb with
            | false =>
              obtain rfl : mm = mb := by rw [HREL.out]; simp
              have e9 : (mm != mm) = false := by simp
              cases mm with
              | false =>
                go_wp2_with (first
                  | (go_at_call 13; rw [HFD.out]; (with_reducible refine (HRB.out _ BB.out).mono ?_); rintro e wr1 ⟨rfl, hbr⟩; have BR := Lib.hid (BB.out.trans (hbr.mono BB.out.size)); clear hbr k1 k2; obtain ⟨k1, k2, -, -, -, -, -⟩ := HKP.out _ BR.out)
                  | (go_at_call 21; rw [HFD.out]; (with_reducible refine (HIN.out _ BR.out).mono ?_); rintro e wr2 ⟨rfl, hbi⟩; have BI := Lib.hid (BR.out.trans (hbi.mono BR.out.size)); clear hbi))
                exact ⟨⟨p + 1, by omega, by go_num, HBLV.out.trans (BR.out.mono HBLV.out.size)⟩, by simp [intOf]; omega⟩
              | true =>
                go_wp2_with (first
                  | (go_at_call 13; rw [HFD.out]; (with_reducible refine (HRB.out _ BB.out).mono ?_); rintro e wr1 ⟨rfl, hbr⟩; have BR := Lib.hid (BB.out.trans (hbr.mono BB.out.size)); clear hbr k1 k2; obtain ⟨k1, k2, -, -, -, -, -⟩ := HKP.out _ BR.out)
                  | (go_at_call 21; rw [HFD.out]; (with_reducible refine (HIN.out _ BR.out).mono ?_); rintro e wr2 ⟨rfl, hbi⟩; have BI := Lib.hid (BR.out.trans (hbi.mono BR.out.size)); clear hbi))
                exact ⟨⟨p + 1, by omega, by go_num, HBLV.out.trans (BR.out.mono HBLV.out.size)⟩, by simp [intOf]; omega⟩
            | true =>
              by_cases hpq : p = q
              · have e5 : ((p : Int) == (q : Int)) = true := by rw [hpq]; simp
                have e5n : (p == q) = true := by rw [hpq]; simp
                obtain rfl : mm = true := by rw [HREL.out, HIU.out, e5n]; simp
                clear hpq
                cases mb with
                | false =>
                  go_wp2_with (first
                    | (go_at_call 13; rw [HFD.out]; (with_reducible refine (HRB.out _ BB.out).mono ?_); rintro e wr1 ⟨rfl, hbr⟩; have BR := Lib.hid (BB.out.trans (hbr.mono BB.out.size)); clear hbr k1 k2; obtain ⟨k1, k2, -, -, -, -, -⟩ := HKP.out _ BR.out)
                    | (go_at_call 21; rw [HFD.out]; (with_reducible refine (HIN.out _ BR.out).mono ?_); rintro e wr2 ⟨rfl, hbi⟩; have BI := Lib.hid (BR.out.trans (hbi.mono BR.out.size)); clear hbi))
                  exact ⟨⟨p + 1, by omega, by go_num, HBLV.out.trans (BR.out.mono HBLV.out.size)⟩, by simp [intOf]; omega⟩
                | true =>
                  go_wp2_with (first
                    | (go_at_call 13; rw [HFD.out]; (with_reducible refine (HRB.out _ BB.out).mono ?_); rintro e wr1 ⟨rfl, hbr⟩; have BR := Lib.hid (BB.out.trans (hbr.mono BB.out.size)); clear hbr k1 k2; obtain ⟨k1, k2, -, -, -, -, -⟩ := HKP.out _ BR.out)
                    | (go_at_call 21; rw [HFD.out]; (with_reducible refine (HIN.out _ BR.out).mono ?_); rintro e wr2 ⟨rfl, hbi⟩; have BI := Lib.hid (BR.out.trans (hbi.mono BR.out.size)); clear hbi))
                  exact ⟨⟨p + 1, by omega, by go_num, HBLV.out.trans (BR.out.mono HBLV.out.size)⟩, by simp [intOf]; omega⟩
              · have e5 : ((p : Int) == (q : Int)) = false := beq_eq_false_iff_ne.2 (by omega)
                have e5n : (p == q) = false := beq_eq_false_iff_ne.2 hpq
                obtain rfl : mm = (mb || ib) := by rw [HREL.out, HIU.out, e5n]; simp
                clear hpq
                cases mb with
                | false =>
                  cases ib with
                  | false =>
                    go_wp2_with (first
                      | (go_at_call 13; rw [HFD.out]; (with_reducible refine (HRB.out _ BB.out).mono ?_); rintro e wr1 ⟨rfl, hbr⟩; have BR := Lib.hid (BB.out.trans (hbr.mono BB.out.size)); clear hbr k1 k2; obtain ⟨k1, k2, -, -, -, -, -⟩ := HKP.out _ BR.out)
                      | (go_at_call 21; rw [HFD.out]; (with_reducible refine (HIN.out _ BR.out).mono ?_); rintro e wr2 ⟨rfl, hbi⟩; have BI := Lib.hid (BR.out.trans (hbi.mono BR.out.size)); clear hbi))
                    exact ⟨⟨p + 1, by omega, by go_num, HBLV.out.trans (BI.out.mono HBLV.out.size)⟩, by simp [intOf]; omega⟩
                  | true =>
                    go_wp2_with (first
                      | (go_at_call 13; rw [HFD.out]; (with_reducible refine (HRB.out _ BB.out).mono ?_); rintro e wr1 ⟨rfl, hbr⟩; have BR := Lib.hid (BB.out.trans (hbr.mono BB.out.size)); clear hbr k1 k2; obtain ⟨k1, k2, -, -, -, -, -⟩ := HKP.out _ BR.out)
                      | (go_at_call 21; rw [HFD.out]; (with_reducible refine (HIN.out _ BR.out).mono ?_); rintro e wr2 ⟨rfl, hbi⟩; have BI := Lib.hid (BR.out.trans (hbi.mono BR.out.size)); clear hbi))
                    exact ⟨⟨p + 1, by omega, by go_num, HBLV.out.trans (BI.out.mono HBLV.out.size)⟩, by simp [intOf]; omega⟩
                | true =>
                  cases ib with
                  | false =>
                    go_wp2_with (first
                      | (go_at_call 13; rw [HFD.out]; (with_reducible refine (HRB.out _ BB.out).mono ?_); rintro e wr1 ⟨rfl, hbr⟩; have BR := Lib.hid (BB.out.trans (hbr.mono BB.out.size)); clear hbr k1 k2; obtain ⟨k1, k2, -, -, -, -, -⟩ := HKP.out _ BR.out)
                      | (go_at_call 21; rw [HFD.out]; (with_reducible refine (HIN.out _ BR.out).mono ?_); rintro e wr2 ⟨rfl, hbi⟩; have BI := Lib.hid (BR.out.trans (hbi.mono BR.out.size)); clear hbi))
                    exact ⟨⟨p + 1, by omega, by go_num, HBLV.out.trans (BI.out.mono HBLV.out.size)⟩, by simp [intOf]; omega⟩
                  | true =>
                    go_wp2_with (first
                      | (go_at_call 13; rw [HFD.out]; (with_reducible refine (HRB.out _ BB.out).mono ?_); rintro e wr1 ⟨rfl, hbr⟩; have BR := Lib.hid (BB.out.trans (hbr.mono BB.out.size)); clear hbr k1 k2; obtain ⟨k1, k2, -, -, -, -, -⟩ := HKP.out _ BR.out)
                      | (go_at_call 21; rw [HFD.out]; (with_reducible refine (HIN.out _ BR.out).mono ?_); rintro e wr2 ⟨rfl, hbi⟩; have BI := Lib.hid (BR.out.trans (hbi.mono BR.out.size)); clear hbi))
                    exact ⟨⟨p + 1, by omega, by go_num, HBLV.out.trans (BI.out.mono HBLV.out.size)⟩, by simp [intOf]; omega⟩
          · obtain rfl : d.k.length = p := by omega
            have HBU := Lib.hid (HBLT.out.trans (hbl.mono HBLT.out.size))
            clear hbl
            go_wp2_with fail
            exact ⟨⟨k + 1, by omega, congrArg (Value.int .i64) (by have := HTT.out; omega), HBU.out⟩, by have := HTT.out; simp [intOf]; omega⟩
      · obtain rfl : k = 6 := by omega
        have d1 : decide ((T : Int) < (lt : Int) + 6) = false := decide_eq_false (by omega)
        clear hbl
        go_wp2_with (go_at_call 8; refine (awake_any _).mono ?_; rintro e w9 ⟨rfl, hb9⟩; have HB9 := Lib.hid ((HBF.out _ HBT.out).trans (hb9.mono (HBF.out _ HBT.out).size)); clear hb9)
        go_ret
        exact ⟨by first | rfl | simp, HB9.out⟩

/-! ### THE ROW's STEP: WRITTEN OUT: LEAVE IT -/
set_option maxRecDepth 100000 in
theorem lifted (os : Os) (started : os.Started) (H : Type) (enc : TypeId × Value → H) :
    ReturnsInHanded {} Try.checked os 5 .any (Rows.readersGrowSpec.pre6 enc Try.prog Try.f5 Rows.readersGrowRow.domain false) (Rows.readersGrowSpec.post enc Try.prog Try.f5 false true false false) := by
  refine returnsInHanded_of_change (C := Try.checked) own started (by kernel_rfl) Try.func5
    (ChangeSpec.witness6 (enc := enc) (C := Try.checked) false ⟨#[], #[.slice none 0 0], []⟩ 8 (by kernel_rfl) (by kernel_rfl) (by kernel_rfl) (by kernel_rfl)) ?_
  intro W base args ds gs before hval0 hW hcnd _
  have hval : ∀ (j : Nat) t v, Try.f5.params[j]? = some t → args[j]? = some v → Value.okWide Try.prog W .any base t v := hval0
  have hW' := hW
  obtain ⟨p, q, hA0, hV, rfl, hfz, hnd⟩ := hW
  have hA : DataW.TrodAll enc Try.prog W 0 (fun _ => true) true Try.f5.params.toList args.toList ds p := hA0
  rw [Try.params5] at hA hval
  obtain ⟨v0, vs0, d0, ds0, p0, q0, hargs, rfl, rfl, h0, r0⟩ := trodAll_cons hA
  obtain ⟨rfl, rfl, rfl⟩ := trodAll_nil r0
  obtain rfl : args = #[v0] := by cases args; simp_all
  obtain ⟨rfl, rfl⟩ := trodVars_none hV
  obtain ⟨a0, len0, cap0, rfl⟩ := okWide_slice Try.underlying22 (hval 0 22 v0 rfl rfl)
  have k0 := h0
  have lt0 : ∀ x ∈ p0, x.block < W.heap.size := by obtain ⟨m, hm⟩ := k0; exact DataW.trod_lt m _ _ _ hm
  obtain ⟨z0, w0⟩ : ∃ zs, IsRow .i64 W a0 len0 cap0 zs := by
    obtain ⟨fuel, hf⟩ := h0
    rcases open_ints Try.underlying22 Try.underlying3 (by kernel_rfl) hf with ⟨hcs, _⟩ | ⟨x, l, c, zs, hcs, _, hl, hm, hz, _, hcell, hwz⟩
    · simp [Value.cells] at hcs
      obtain ⟨rfl, rfl, rfl⟩ := hcs
      exact ⟨[], .inl ⟨rfl, rfl, rfl, rfl⟩⟩
    · simp [Value.cells] at hcs
      obtain ⟨rfl, rfl, rfl⟩ := hcs
      exact ⟨zs, .inr ⟨_, rfl, hl, hm, by simpa using hz, hcell, hwz⟩⟩
  clear hA0 hval0
  refine (walk a0 len0 cap0 z0 W w0).mono fun e W' ⟨he, bel⟩ => ?_
  subst he
  exact ⟨_, rfl, _, _, _, [], _, [], hW', trodAll_mk1 (shut_bool Try.underlying4 _), (trodAll_cons_mk (Below.trod laidOut (by kernel_rfl) (of_decide_eq_true (by kernel_rfl)) k0 bel lt0) trodAll_mk0), rfl, bel.frame _, fun h => by cases h⟩

theorem over : Rows.readersGrowRow.holds Try.pinned (OpenSpec.ofChange Rows.readersGrowSpec) :=
  OpenClaim.holds_of_wide 5 Try.f5 rfl rfl rfl rfl rfl rfl rfl ⟨rfl, rfl, rfl, rfl, rfl⟩ rfl rfl rfl rfl rfl (by kernel_rfl) Try.func5 (by kernel_rfl)
    (of_decide_eq_true (by kernel_rfl)) (by unfold Func.isWrapper; first | (rw [if_pos (by decide +kernel)]; kernel_rfl) | (rw [if_neg (by decide +kernel)]; exact ⟨rfl, rfl⟩))
    (fun os started H enc _ => lifted os started H enc)

/-- ████ THE STATEMENT ████ -/
theorem proved : Rows.ReadersGrowSaid := over
#print axioms proved
end Go.Proofs.Ytgknfkmojhganaa.readersGrow
