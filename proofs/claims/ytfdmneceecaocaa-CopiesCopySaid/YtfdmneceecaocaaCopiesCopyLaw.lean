/-
  The Go function leakresponse/leakresponselaw29.CopiesCopy returns true for every list of numbers, and leaves what was there as it was; no conditions. A copy at the end brings all contents of its place to the other one and takes none away; a removal takes just one content out of one place.
-/
import Derived.Test.YtfdmneceecaocaaAcI
import Derived.Test.YtfdmneceecaocaaAcJ
import Derived.Test.YtfdmneceecaocaaDjF
import Derived.Test.YtfdmneceecaocaaRows
import Derived.Test.YtfdmneceecaocaaCoT
import Derived.BigQuiet
import Derived.WalkKit
import Derived.ProofKit
import Derived.OpenShut
import Derived.ShutString
import Derived.ChangeOld
import Derived.Below
import Derived.StillTailTactics
import Derived.Deep.CutBlock
namespace Go.Proofs.Ytfdmneceecaocaa.copiesCopy
open Go.ChangeShapes Go.WideShapes Go.ChangeAt Go.RowKit
open Go.ChangeMaps (open_string shut_string)
open Go.Proofs.Ytfdmneceecaocaa.Tp
open Go.Proofs.Ytfdmneceecaocaa.Di
set_option linter.unusedVariables false

set_option maxRecDepth 100000 in
set_option maxHeartbeats 8000000 in
theorem walk (a0 : Option Addr) (len0 cap0 : Nat) (z0 : List Int) (w : World) (w0 : IsRow .i64 w a0 len0 cap0 z0) :
    Calls Try.prog 12 #[.slice a0 len0 cap0] w fun e w' => e = .returned (.bool true) ∧ Below w.heap.size w w' := by
  have hm := w0.at_.1
  unfold maxLen at hm
  have HTP := Lib.hid (tape_new w0)
  have HBX := Lib.hid (box_below w (.cells #[.slice a0 len0 cap0, .int .i64 0] 29))
  clear w0
  by_cases hlen : 300 < len0
  · have hl0 : (300 : Int) < (len0 : Int) := by omega
    go_enter Try.func12, Try.ntmps12
    go_wp2_with (go_at_call 32; refine (awake29_any _).mono ?_; rintro e w1 ⟨rfl, hb1⟩; have HB1 := Lib.hid hb1; clear hb1)
    go_ret
    exact ⟨rfl, HB1.out⟩
  · have hl0 : (len0 : Int) ≤ (300 : Int) := by omega
    go_enter Try.func12, Try.ntmps12
    go_wp2_with fail
    refine (directory_any w.heap.size _ HTP.out (by simp)).mono ?_
    rintro e w1 ⟨d, v, rfl, hmk, hrl, hg1, ht1⟩
    have hb1 : Below w.heap.size w w1 := HBX.out.grown hg1 HBX.out.size (fun k e => by cases e; exact Nat.le_refl _)
    have hs1 := hg1.size
    simp at hs1
    have HB1 := Lib.hid hb1
    have HT1 := Lib.hid ht1
    have hn1 := hmk.n1
    have hn7 := hmk.n7
    clear hrl hg1 ht1 hb1 hmk
    go_wp2_with fail
    refine (estate_any w.heap.size d v w1 HT1.out (by omega) hn1 hn7).mono ?_
    rintro e w2 ⟨a, ⟨A, vc⟩, rfl, hme, hel, hg2, ht2⟩
    have hb2 : Below w.heap.size w w2 := HB1.out.grown hg2 HB1.out.size (fun k e => by cases e; exact Nat.le_refl _)
    have hs2 : w.heap.size + 1 ≤ w2.heap.size := by have := hg2.size; omega
    have HQ := Lib.hid (heap_alloc_new w2 (.cells (ge a ⟨A, vc⟩) 25))
    have HEL := Lib.hid (Row.below (hel.base (show w.heap.size + 1 ≤ _ by omega)) (box_below w2 (.cells (ge a ⟨A, vc⟩) 25)))
    have HB2 := Lib.hid (hb2.trans ((box_below w2 (.cells (ge a ⟨A, vc⟩) 25)).mono hb2.size))
    have HT2 := Lib.hid (tape_new2 ht2 (.cells (ge a ⟨A, vc⟩) 25))
    have HME := Lib.hid hme
    have ha1 := hme.ok.n1
    have ha4 := hme.n4
    have ha15 := hme.m15
    clear hel hg2 ht2 hb2 hme HB1 HT1 HBX HTP
    obtain ⟨g0, g1⟩ := geCells HQ.out
    go_upto_if 34 with (with_reducible (show wpList _ _ _ (⟨none, .store 25 (.tmp 4) (.tmp 30), _, _, _, _⟩ :: _) _ _); refine wpList_store_row (o := ⟨none, .store 25 (.tmp 4) (.tmp 30), _, _, _, _⟩) rfl 25 (.tmp 4) (.tmp 30) rfl w2.heap.size (ge a ⟨A, vc⟩) rfl rfl 25 zE (heap_alloc_new _ _) (infoEs _ _) rfl (ge_one _ _) ?_; rw [new_set])
    have lQ : w2.heap.size < (w2.alloc (.cells (ge a ⟨A, vc⟩) 25)).heap.size := row_lt HQ.out
    generalize w2.alloc (.cells (ge a ⟨A, vc⟩) 25) = W1 at *
    generalize w2.heap.size = Q at *
    have HOK := Lib.hid HME.out.ok
    obtain ⟨n, hn⟩ : ∃ n : Nat, a.n = (n : Int) := ⟨a.n.toNat, by omega⟩
    have hn6 : n ≤ 16 := by omega
    have HAN := Lib.hid hn
    have hn1 : 1 ≤ n := by omega
    obtain ⟨lt, hlt, hlt2, hltm⟩ := Eok.last29 HME.out
    have HLT := Lib.hid hlt
    have HLM := Lib.hid hltm
    clear hlt hltm
    go_cut [5] from 31 to 43 (fun s6 wx => s6 = .int .i64 (lt : Int) ∧ W1 = wx)
    case first =>
      by_cases hE : a.e.length = 0
      · have hd : decide ((0 : Int) < (a.e.length : Int)) = false := decide_eq_false (by omega)
        have hd2 : ¬ 0 < a.e.length := by omega
        have hl0 : (0 : Int) = (lt : Int) := by rw [← HLT.out]; unfold lastA; rw [if_pos hE]
        have HL0 := Lib.hid hl0
        clear hl0 hE
        go_wp2_with fail
        go_meet
        case rel => exact ⟨by rw [HL0.out], rfl⟩
      · have hd : decide ((0 : Int) < (a.e.length : Int)) = true := decide_eq_true (by omega)
        have hd2 : 0 < a.e.length := by omega
        obtain ⟨m, hm⟩ : ∃ m, a.e.length = m + 1 := ⟨a.e.length - 1, by omega⟩
        obtain ⟨be, oe, hA2, -, -, hac⟩ := Row.ac HEL.out (show m < a.e.length by omega)
        have hA2 : A = some ⟨be, oe, none⟩ := hA2
        obtain ⟨y0, -, -, -, -, -, -⟩ := hac
        have hy : (ag a.e m).t = (lt : Int) := by rw [← HLT.out]; unfold lastA; rw [if_neg (by omega), show a.e.length - 1 = m by omega]
        rw [hy] at y0
        have hw1 : IntKind.i64.wrap ((a.e.length : Int) - 1) = (m : Int) := by rw [IntWalk.i64_in _ (by omega)]; omega
        have hw2 : (a.e.length : Int) - 1 = (m : Int) := by omega
        have m2' : (m : Int) ≤ 20 := by omega
        have m0' : (0 : Int) ≤ (m : Int) := by omega
        have m1' : (m : Int) < (a.e.length : Int) := by omega
        subst hA2
        clear hE hm hy hn
        go_wp2_with fail
        go_meet
        case rel => exact ⟨rfl, rfl⟩
    case rest =>
    obtain ⟨rfl, rfl⟩ := hcut
    have hnx := fun w' (h : TapeOk w' w.heap.size) => next_any w.heap.size a.n w' h (by omega) (by omega)
    have hnx3 := fun w' (h : TapeOk w' w.heap.size) => next_any w.heap.size 3 w' h (by omega) (by omega)
    have HNX1 := Lib.hid hnx
    have HNX3 := Lib.hid hnx3
    have HM1 := Lib.hid True.intro
    have hk : ∀ w', W1.grownBy w' (some w.heap.size) → TapeOk w' w.heap.size → w'.cell? ⟨Q, 0, none⟩ = some (.int .i64 a.n) ∧ W1.grownBy w' (some w.heap.size) ∧ TapeOk w' w.heap.size := fun w' hg ht => ⟨(geCells ((hg.block _ lQ (fun e => by injection e; omega)).trans HQ.out)).1, hg, ht⟩
    have HK := Lib.hid hk
    have gd0 : W1.grownBy W1.drew (some w.heap.size) := gb_drewN W1 1 _
    have td0 : TapeOk W1.drew w.heap.size := HT2.out
    clear hnx hnx3 hk hn
    go_wp2_with fail
    go_region_held3 (fun w' => w'.cell? ⟨Q, 0, none⟩ = some (.int .i64 a.n) ∧ W1.grownBy w' (some w.heap.size) ∧ TapeOk w' w.heap.size)
      (first | (with_reducible assumption) | (with_reducible exact HK.out _ gd0 td0) | (with_reducible exact HK.out _ ga ta) | (with_reducible exact HK.out _ gn tn) | (with_reducible exact HK.out _ gq tq))
      (first
        | (go_at_call 23; clear HM1; (with_reducible refine (HNX1.out _ ?_).mono ?_); (go_split_ands; with_reducible assumption); rintro e wm ⟨zi, a1, b1, rfl, hga, hta⟩; obtain ⟨f, rfl⟩ : ∃ z : Nat, zi = z := ⟨zi.toNat, by omega⟩; go_split_ands; have ga : W1.grownBy wm (some w.heap.size) := gb_trans (by with_reducible assumption) hga; have ta := hta; clear hga hta)
        | (go_at_call 23; (with_reducible refine (HNX1.out _ ?_).mono ?_); (go_split_ands; with_reducible assumption); rintro e wn ⟨zj, a2, b2, rfl, hgn, htn⟩; obtain ⟨o, rfl⟩ : ∃ z : Nat, zj = z := ⟨zj.toNat, by omega⟩; go_split_ands; have gn : W1.grownBy wn (some w.heap.size) := gb_trans (by with_reducible assumption) hgn; have tn := htn; clear hgn htn)
        | (go_at_call 23; (with_reducible refine (HNX3.out _ ?_).mono ?_); (go_split_ands; with_reducible assumption); rintro e w3 ⟨zk, a3, b3, rfl, hgo, hto⟩; obtain ⟨c, rfl⟩ : ∃ z : Nat, zk = z := ⟨zk.toNat, by omega⟩; go_split_ands; have gq : W1.grownBy w3 (some w.heap.size) := gb_trans (by with_reducible assumption) hgo; have tq := hto; clear hgo hto))
    go_split_ands
    have hgo : W1.grownBy w3 (some w.heap.size) := gq
    have HQ3 := Lib.hid ((hgo.block Q lQ (fun e => by injection e; omega)).trans HQ.out)
    have HE3 := Lib.hid (HEL.out.grown hgo (fun g e => by cases e; omega))
    have HB3 := Lib.hid (HB2.out.grown hgo HB2.out.size (fun k e => by cases e; exact Nat.le_refl _))
    have hfn : f < n := by have := HAN.out; omega
    have hon : o < n := by have := HAN.out; omega
    have hc3 : c < 3 := by omega
    clear ga ta gn tn gq tq hgo gd0 td0 a1 b1 a2 b2 a3 b3 HK HNX1 HNX3 g0 g1 HQ HEL HB2 HT2
    have lQ3 : Q < w3.heap.size := row_lt HQ3.out
    have HEF := Lib.hid (fun wr (h : Below w3.heap.size w3 wr) => Row.base (B' := 0) (Row.below HE3.out h) (Nat.zero_le _))
    have HQF := Lib.hid (fun wr (h : Below w3.heap.size w3 wr) => (h.block _ lQ3).trans HQ3.out)
    have HBF := Lib.hid (fun wr (h : Below w3.heap.size w3 wr) => HB3.out.trans (h.mono HB3.out.size))
    obtain ⟨j0, hj1, hy0, hy1, hy2⟩ := info_parts zinfoAc
    have HJ := Lib.hid hj1
    have HJ0 := Lib.hid hy0
    have HJ1 := Lib.hid hy1
    have HJ2 := Lib.hid hy2
    clear hj1 hy0 hy1 hy2
    have B0E := Lib.hid (Below.refl w3.heap.size w3)
    obtain ⟨g0, g1⟩ := geCells (HQF.out w3 B0E.out)
    have hbc := box_below w3 (.cells (ge a ⟨A, vc⟩) 25)
    have HC4 := Lib.hid (heap_alloc_new w3 (.cells (ge a ⟨A, vc⟩) 25))
    have lC := row_lt HC4.out
    have lQ4 : Q < w3.heap.size := row_lt (HQF.out w3 B0E.out)
    have z0 := fun o => (World.cell?_alloc_lt w3 o _ lQ4).trans g0
    have z1 := fun o => (World.cell?_alloc_lt w3 o _ lQ4).trans g1
    have HB34 := Lib.hid (B0E.out.trans (hbc.mono B0E.out.size))
    have HE4 := Lib.hid (HEF.out _ HB34.out)
    have hsz0 : w3.heap.size ≤ w3.heap.size := B0E.out.size
    have OKE := Lib.hid (show Eok ⟨a.n, a.e ++ [⟨(lt : Int), 6, (f : Int), 0, 0, (c : Int), 0⟩]⟩ from HOK.out.add (by omega) ⟨by show (0 : Int) ≤ (lt : Int); omega, by show (lt : Int) ≤ _; omega, by show (0 : Int) ≤ (f : Int); omega, by rw [HAN.out]; show (f : Int) < (n : Int); omega, .inr (.inr (.inr (.inl ⟨.inr rfl, by show (0 : Int) ≤ (c : Int); omega, by show (c : Int) < 64; omega, rfl, rfl, rfl⟩)))⟩ (fun j hj => HLM.out j hj))
    have RLE := Lib.hid (fun (x : Int) (p : Nat) => wB_rem a.n a.e lt f c x p)
    clear hbc
    go_wp2_with (first
      | (at_builtin; refine app_list rfl (.const (.slice none 0 0)) (.tmp 56) w3.heap.size _ 23 52 rfl j0 (.agg #[.int .i64 0, .int .i64 0, .int .i64 0, .int .i64 0, .int .i64 0, .int .i64 0, .int .i64 0]) 7 56 Try.underlying23 HJ.out HJ0.out HJ1.out HJ2.out rfl (by omega) (.slice none 0 0) 0 [] rfl (own_nil _ _ _ _) A a.e.length vc (av a.e) rfl HE4.out (av_one _) (by omega) (by omega) (by simp) ?_; intro v1 w5 hown1 hgr1 _; rw [Nat.zero_add, List.nil_append] at hown1; obtain ⟨A2, c2, rfl⟩ := own_form hown1; have O5 := Lib.hid hown1; have hb45 := (Below.refl (w3.alloc (.cells (ge a ⟨A, vc⟩) 25)).heap.size (w3.alloc (.cells (ge a ⟨A, vc⟩) 25))).grown hgr1 (Nat.le_refl _) (fun k e => by cases e); have C5 := Lib.hid ((hb45.block _ lC).trans HC4.out); have B5 := Lib.hid (HB34.out.trans (hb45.mono (by simp <;> omega))); have hs5 : w3.heap.size ≤ w5.heap.size := Nat.le_trans (Nat.le_of_lt lC) hb45.size; clear hown1 hgr1 hb45)
      | (at_builtin; refine wpList_append_own _ rfl (.tmp 57) (.tmp 62) 23 rfl w3.heap.size 52 j0 (.agg #[.int .i64 0, .int .i64 0, .int .i64 0, .int .i64 0, .int .i64 0, .int .i64 0, .int .i64 0]) 7 56 Try.underlying23 HJ.out HJ0.out HJ1.out HJ2.out rfl (by decide) _ a.e.length (av a.e) rfl (O5.out.alloc _) ⟨w5.heap.size, 0, none⟩ 1 1 [.int .i64 (lt : Int), .int .i64 6, .int .i64 (f : Int), .int .i64 0, .int .i64 0, .int .i64 (c : Int), .int .i64 0] rfl rfl (World.news_of_block (heap_alloc_new w5 _)) (by simp [Value.oneCell']) (by unfold maxLen; omega) (by omega) (by have := B5.out.size; simp; omega) ?_; intro v' w12 hown hgr _; obtain ⟨A3, c3, rfl⟩ := own_form hown; have Q12 := Lib.hid (cp_q C5.out O5.out hgr); have HADD := Lib.hid (cp_add (x := ⟨(lt : Int), 6, (f : Int), 0, 0, (c : Int), 0⟩) C5.out O5.out hgr hown); have B12 := Lib.hid (far_below B5.out O5.out hgr hsz0); clear hown hgr; obtain ⟨r0, r1⟩ := geCells Q12.out; have r2 : w12.frozen? ⟨w3.heap.size, 1, none⟩ = false := frozen_of_row _ _ _ _ _ Q12.out; obtain ⟨VE, hV⟩ : ∃ V, w12.setCell ⟨w3.heap.size, 1, none⟩ (.slice A3 (a.e.length + 1) c3) = V := ⟨_, rfl⟩; have CVE := Lib.hid (show CRel w3.heap.size w3.heap.size a.n (a.e ++ [⟨(lt : Int), 6, (f : Int), 0, 0, (c : Int), 0⟩]) VE by rw [← hV]; exact HADD.out); have BVE := Lib.hid (show Below w3.heap.size w3 VE by rw [← hV, setCell_eq_setRow _ _ _ _ _ _ _ Q12.out]; exact below_setRow B12.out (by omega) _); clear z0 z1 g0 g1; obtain ⟨g0, g1⟩ := geCells (HQF.out VE BVE.out)))
    obtain ⟨A7, c7, hc7, ho7⟩ := CVE.out
    have HQE := Lib.hid hc7
    have HEE := Lib.hid (show EL VE 0 ⟨a.n, a.e ++ [⟨(lt : Int), 6, (f : Int), 0, 0, (c : Int), 0⟩]⟩ ⟨A7, c7⟩ from Row.base (B' := 0) (row_of_own ho7) (Nat.zero_le _))
    clear hc7 ho7 HC4 HE4 HB34 lC
    generalize a.e ++ [(⟨(lt : Int), 6, (f : Int), 0, 0, (c : Int), 0⟩ : Ac)] = M at *
    obtain ⟨C, hCC⟩ : ∃ C, C = w3.heap.size := ⟨_, rfl⟩
    rw [← hCC] at HQE
    rw [← hCC]
    clear hCC
    go_loopw [10] (fun pp wr => ∃ p : Nat, p ≤ n ∧ pp = .int .i64 (p : Int) ∧ Below VE.heap.size VE wr) (fun pp _ => (n - (intOf pp).toNat))
    case atStart => exact ⟨0, by omega, rfl, Below.refl _ _⟩
    case round =>
      obtain ⟨p, hp, rfl, hbl⟩ := hrel
      rename World => wv
      have HBV := Lib.hid (BVE.out.trans (hbl.mono BVE.out.size))
      have HBL0 := Lib.hid hbl
      have hgq : ∀ w', Below wv.heap.size wv w' → (w'.cell? ⟨Q, 0, none⟩ = some (.int .i64 a.n) ∧ w'.cell? ⟨Q, 1, none⟩ = some (.slice A a.e.length vc) ∧ w'.cell? ⟨C, 0, none⟩ = some (.int .i64 a.n) ∧ w'.cell? ⟨C, 1, none⟩ = some (.slice A7 M.length c7) ∧ Below wv.heap.size wv w') := fun w' hw =>
        have hww := hbl.trans (hw.mono hbl.size)
        have h1 := HQF.out w' (HBV.out.trans (hw.mono HBV.out.size))
        have h2 := (hww.block _ (row_lt HQE.out)).trans HQE.out
        ⟨(geCells h1).1, (geCells h1).2, (geCells h2).1, (geCells h2).2, hw⟩
      have HKP := Lib.hid hgq
      obtain ⟨q0, q1, q2, q3, -⟩ := hgq wv (Below.refl _ _)
      by_cases hlp : p < n
      · have d9 : decide ((p : Int) < a.n) = true := decide_eq_true (by rw [HAN.out]; omega)
        have hha := fun w' (hw : Below wv.heap.size wv w') => holds_any a ⟨A, vc⟩ p (lt : Int) n w' (HEF.out w' (HBV.out.trans (hw.mono HBV.out.size))) HOK.out HAN.out hlp
        have hhc := fun w' (hw : Below wv.heap.size wv w') => holds_any ⟨a.n, M⟩ ⟨A7, c7⟩ p (lt : Int) n w' (Row.below HEE.out (hbl.trans (hw.mono hbl.size))) OKE.out HAN.out hlp
        have HRX := Lib.hid (fun x : Nat => RLE.out (x : Int) p)
        simp only [ge] at hha hhc
        unfold SmPost at hha hhc
        generalize hbA : (fun x : Nat => wB a (x : Int) (lt : Int) p) = bA at *
        generalize hbC : (fun x : Nat => wB ⟨a.n, M⟩ (x : Int) (lt : Int) p) = bC at *
        have HRL := Lib.hid (show ∀ x, bC x = (bA x && ((p : Int) != (f : Int) || (x : Int) != (c : Int))) from fun x => by rw [← hbA, ← hbC]; exact HRX.out x)
        have HHA := Lib.hid hha
        have HHC := Lib.hid hhc
        
        clear hbA hbC hha hhc HRX hgq hbl
        have hcA := cnt_le bA 64
        have hcC := cnt_le bC 64
        
        have hxA := fun (i : Nat) (hi : i < 64) => has_idx bA 64 i hi
        have hxC := fun (i : Nat) (hi : i < 64) => has_idx bC 64 i hi
        
        have HXA := Lib.hid hxA
        have HXC := Lib.hid hxC
        
        clear hxA hxC 
        generalize cnt bA 64 = nA at *
        generalize idx bA 64 = LA at *
        generalize cnt bC 64 = nC at *
        generalize idx bC 64 = LC at *
        
        
        go_wp2_with fail
        have bz1 : Below wv.heap.size wv wv.drew := (Below.refl wv.heap.size wv).drew
        go_region_held3 (fun w' => w'.cell? ⟨Q, 0, none⟩ = some (.int .i64 a.n) ∧ w'.cell? ⟨Q, 1, none⟩ = some (.slice A a.e.length vc) ∧ w'.cell? ⟨C, 0, none⟩ = some (.int .i64 a.n) ∧ w'.cell? ⟨C, 1, none⟩ = some (.slice A7 M.length c7) ∧ Below wv.heap.size wv w')
          (first | (with_reducible assumption) | (with_reducible exact HKP.out _ (Below.refl _ _)) | (with_reducible exact HKP.out _ bz1) | (with_reducible exact HKP.out _ ba) | (with_reducible exact HKP.out _ bb))
          (first
            | (go_at_call 33; (with_reducible refine (HHA.out _ ?_).mono ?_); (go_split_ands; with_reducible assumption); rintro e wa ⟨X1, X1c, rfl, hown, hbb⟩; go_split_ands; have ba : Below wv.heap.size wv wa := Below.trans (by with_reducible assumption) (hbb.mono (Below.size (by with_reducible assumption))); have R1 := Lib.hid ((row_of_own hown).base (Nat.zero_le _)); clear hbb hown HHA)
            | (go_at_call 33; (with_reducible refine (HHC.out _ ?_).mono ?_); (go_split_ands; with_reducible assumption); rintro e wb ⟨X2, X2c, rfl, hown, hbb⟩; go_split_ands; have bb : Below wv.heap.size wv wb := Below.trans (by with_reducible assumption) (hbb.mono (Below.size (by with_reducible assumption))); have R2 := Lib.hid ((row_of_own hown).base (Nat.zero_le _)); have R1b := Lib.hid (R1.out.below hbb); clear R1; clear hbb hown HHC))
        go_split_ands
        have BW := Lib.hid (show Below wv.heap.size wv wb from bb)
        clear ba bb bz1
        have hhA := fun (x : Nat) (hx : x < 64) w' (hw : Below wb.heap.size wb w') => has_any LA x X1 nA X1c w' (R1b.out.below hw) (by omega)
        have hhC := fun (x : Nat) (hx : x < 64) w' (hw : Below wb.heap.size wb w') => has_any LC x X2 nC X2c w' (R2.out.below hw) (by omega)
        have HHA2 := Lib.hid (fun (x : Nat) (hx : x < 64) w' hw => (by have h := hhA x hx w' hw; rw [HXA.out x hx] at h; exact h : Calls Try.prog 31 #[.slice X1 nA X1c, .int .i64 (x : Int)] w' fun e w2 => e = .returned (.bool (bA x)) ∧ w2 = w'))
        have HHC2 := Lib.hid (fun (x : Nat) (hx : x < 64) w' hw => (by have h := hhC x hx w' hw; rw [HXC.out x hx] at h; exact h : Calls Try.prog 31 #[.slice X2 nC X2c, .int .i64 (x : Int)] w' fun e w2 => e = .returned (.bool (bC x)) ∧ w2 = w'))
        clear hhA hhC HXA HXC
        go_wp2_with fail
        go_loopw [13] (fun xx wr => ∃ x : Nat, x ≤ 3 ∧ xx = .int .i64 (x : Int) ∧ Below wb.heap.size wb wr) (fun xx _ => (3 - (intOf xx).toNat))
        case atStart => exact ⟨0, by omega, rfl, Below.refl _ _⟩
        case round =>
          obtain ⟨x, hx, rfl, hbl⟩ := hrel
          rename World => wx
          have HBX := Lib.hid hbl
          by_cases hlx : x < 3
          · have d8 : decide ((x : Int) < 3) = true := decide_eq_true (by omega)
            have ha := HHA2.out x (by omega) wx hbl
            have hc := HHC2.out x (by omega) wx hbl
            
            have hr := HRL.out x
            generalize bA x = xA at *
            generalize bC x = xC at *
            
            clear hbl
            cases xA with
            | false =>
              obtain rfl : xC = false := by rw [hr]; rfl
              have HA1 := Lib.hid ha
              have HC1 := Lib.hid hc
              clear ha hc hr
              go_wp2_with (first | (go_at_call 31; (with_reducible refine HC1.out.mono ?_); rintro e w8 ⟨rfl, rfl⟩) | (go_at_call 31; (with_reducible refine HA1.out.mono ?_); rintro e w9 ⟨rfl, rfl⟩))
              exact ⟨⟨x + 1, by omega, by go_num, HBX.out⟩, by simp [intOf]; omega⟩
            | true =>
              by_cases h1 : p = f
              · by_cases h2 : x = c
                · skip
                  have e1 : ((p : Int) != (f : Int)) = false := by rw [h1]; simp
                  have e2 : ((x : Int) != (c : Int)) = false := by rw [h2]; simp
                  obtain rfl : xC = false := by rw [hr, e1, e2]; rfl
                  have HA1 := Lib.hid ha
                  have HC1 := Lib.hid hc
                  clear ha hc hr h1 h2
                  go_wp2_with (first | (go_at_call 31; (with_reducible refine HC1.out.mono ?_); rintro e w8 ⟨rfl, rfl⟩) | (go_at_call 31; (with_reducible refine HA1.out.mono ?_); rintro e w9 ⟨rfl, rfl⟩))
                  exact ⟨⟨x + 1, by omega, by go_num, HBX.out⟩, by simp [intOf]; omega⟩
                · skip
                  have e1 : ((p : Int) != (f : Int)) = false := by rw [h1]; simp
                  have e2 : ((x : Int) != (c : Int)) = true := bne_iff_ne.2 (by omega)
                  obtain rfl : xC = true := by rw [hr, e1, e2]; rfl
                  have HA1 := Lib.hid ha
                  have HC1 := Lib.hid hc
                  clear ha hc hr h1 h2
                  go_wp2_with (first | (go_at_call 31; (with_reducible refine HC1.out.mono ?_); rintro e w8 ⟨rfl, rfl⟩) | (go_at_call 31; (with_reducible refine HA1.out.mono ?_); rintro e w9 ⟨rfl, rfl⟩))
                  exact ⟨⟨x + 1, by omega, by go_num, HBX.out⟩, by simp [intOf]; omega⟩
              · skip
                have e1 : ((p : Int) != (f : Int)) = true := bne_iff_ne.2 (by omega)
                obtain rfl : xC = true := by rw [hr, e1]; rfl
                have HA1 := Lib.hid ha
                have HC1 := Lib.hid hc
                clear ha hc hr h1
                go_wp2_with (first | (go_at_call 31; (with_reducible refine HC1.out.mono ?_); rintro e w8 ⟨rfl, rfl⟩) | (go_at_call 31; (with_reducible refine HA1.out.mono ?_); rintro e w9 ⟨rfl, rfl⟩))
                exact ⟨⟨x + 1, by omega, by go_num, HBX.out⟩, by simp [intOf]; omega⟩
          · obtain rfl : x = 3 := by omega
            have d8 : decide (((3 : Nat) : Int) < 3) = false := rfl
            have HBY := Lib.hid (HBV.out.trans ((BW.out.trans (hbl.mono BW.out.size)).mono HBV.out.size))
            have HBU := Lib.hid (show Below VE.heap.size VE wx from HBL0.out.trans ((BW.out.trans (hbl.mono BW.out.size)).mono HBL0.out.size))
            clear hbl
            go_wp2_with fail
            exact ⟨⟨p + 1, by omega, by go_num, HBU.out⟩, by simp [intOf]; omega⟩
      · obtain rfl : n = p := by omega
        have d9 : decide ((n : Int) < a.n) = false := decide_eq_false (by rw [HAN.out]; omega)
        clear hgq hbl
        by_cases hfo : f = o
        · have e5 : ((f : Int) == (o : Int)) = true := by rw [hfo]; simp
          clear hfo
          go_wp2_with (go_at_call 32; refine (awake29_any _).mono ?_; rintro e w9 ⟨rfl, hb9⟩; have HB9 := Lib.hid ((HBF.out _ HBV.out).trans (hb9.mono (HBF.out _ HBV.out).size)); clear hb9)
          go_ret
          exact ⟨by first | rfl | simp, HB9.out⟩
        · have e5 : ((f : Int) == (o : Int)) = false := beq_eq_false_iff_ne.2 (by omega)
          have B0G := Lib.hid HBV.out
          have HFO := Lib.hid hfo
          clear hfo HBV HBL0 HKP q0 q1 q2 q3 HQE HEE OKE RLE
          generalize M = M0 at *
          generalize C = C0 at *
          obtain ⟨g0, g1⟩ := geCells (HQF.out wv B0G.out)
          have hbc := box_below wv (.cells (ge a ⟨A, vc⟩) 25)
          have HC4 := Lib.hid (heap_alloc_new wv (.cells (ge a ⟨A, vc⟩) 25))
          have lC := row_lt HC4.out
          have lQ4 : Q < wv.heap.size := row_lt (HQF.out wv B0G.out)
          have z0 := fun o => (World.cell?_alloc_lt wv o _ lQ4).trans g0
          have z1 := fun o => (World.cell?_alloc_lt wv o _ lQ4).trans g1
          have HB34 := Lib.hid (B0G.out.trans (hbc.mono B0G.out.size))
          have HE4 := Lib.hid (HEF.out _ HB34.out)
          have hsz0 : w3.heap.size ≤ wv.heap.size := B0G.out.size
          have OKG := Lib.hid (show Eok ⟨a.n, a.e ++ [⟨(lt : Int), 7, (o : Int), 0, 0, 0, (f : Int)⟩]⟩ from HOK.out.add (by omega) ⟨by show (0 : Int) ≤ (lt : Int); omega, by show (lt : Int) ≤ _; omega, by show (0 : Int) ≤ (o : Int); omega, by rw [HAN.out]; show (o : Int) < (n : Int); omega, .inr (.inr (.inr (.inr ⟨rfl, by show (0 : Int) ≤ (f : Int); omega, by rw [HAN.out]; show (f : Int) < (n : Int); omega, by show (f : Int) ≠ (o : Int); have := HFO.out; omega, rfl, rfl, rfl⟩)))⟩ (fun j hj => HLM.out j hj))
          have RLG := Lib.hid (fun (x : Int) (p : Nat) => wB_cpy a.n a.e lt f o x p)
          clear hbc
          go_wp2_with (first
            | (at_builtin; refine app_list rfl (.const (.slice none 0 0)) (.tmp 106) wv.heap.size _ 23 52 rfl j0 (.agg #[.int .i64 0, .int .i64 0, .int .i64 0, .int .i64 0, .int .i64 0, .int .i64 0, .int .i64 0]) 7 56 Try.underlying23 HJ.out HJ0.out HJ1.out HJ2.out rfl (by omega) (.slice none 0 0) 0 [] rfl (own_nil _ _ _ _) A a.e.length vc (av a.e) rfl HE4.out (av_one _) (by omega) (by omega) (by simp) ?_; intro v1 w5 hown1 hgr1 _; rw [Nat.zero_add, List.nil_append] at hown1; obtain ⟨A2, c2, rfl⟩ := own_form hown1; have O5 := Lib.hid hown1; have hb45 := (Below.refl (wv.alloc (.cells (ge a ⟨A, vc⟩) 25)).heap.size (wv.alloc (.cells (ge a ⟨A, vc⟩) 25))).grown hgr1 (Nat.le_refl _) (fun k e => by cases e); have C5 := Lib.hid ((hb45.block _ lC).trans HC4.out); have B5 := Lib.hid (HB34.out.trans (hb45.mono (by simp <;> omega))); have hs5 : wv.heap.size ≤ w5.heap.size := Nat.le_trans (Nat.le_of_lt lC) hb45.size; clear hown1 hgr1 hb45)
            | (at_builtin; refine wpList_append_own _ rfl (.tmp 107) (.tmp 112) 23 rfl wv.heap.size 52 j0 (.agg #[.int .i64 0, .int .i64 0, .int .i64 0, .int .i64 0, .int .i64 0, .int .i64 0, .int .i64 0]) 7 56 Try.underlying23 HJ.out HJ0.out HJ1.out HJ2.out rfl (by decide) _ a.e.length (av a.e) rfl (O5.out.alloc _) ⟨w5.heap.size, 0, none⟩ 1 1 [.int .i64 (lt : Int), .int .i64 7, .int .i64 (o : Int), .int .i64 0, .int .i64 0, .int .i64 0, .int .i64 (f : Int)] rfl rfl (World.news_of_block (heap_alloc_new w5 _)) (by simp [Value.oneCell']) (by unfold maxLen; omega) (by omega) (by have := B5.out.size; simp; omega) ?_; intro v' w12 hown hgr _; obtain ⟨A3, c3, rfl⟩ := own_form hown; have Q12 := Lib.hid (cp_q C5.out O5.out hgr); have HADD := Lib.hid (cp_add (x := ⟨(lt : Int), 7, (o : Int), 0, 0, 0, (f : Int)⟩) C5.out O5.out hgr hown); have B12 := Lib.hid (far_below B5.out O5.out hgr hsz0); clear hown hgr; obtain ⟨r0, r1⟩ := geCells Q12.out; have r2 : w12.frozen? ⟨wv.heap.size, 1, none⟩ = false := frozen_of_row _ _ _ _ _ Q12.out; obtain ⟨VG, hV⟩ : ∃ V, w12.setCell ⟨wv.heap.size, 1, none⟩ (.slice A3 (a.e.length + 1) c3) = V := ⟨_, rfl⟩; have CVG := Lib.hid (show CRel wv.heap.size wv.heap.size a.n (a.e ++ [⟨(lt : Int), 7, (o : Int), 0, 0, 0, (f : Int)⟩]) VG by rw [← hV]; exact HADD.out); have BVG := Lib.hid (show Below w3.heap.size w3 VG by rw [← hV, setCell_eq_setRow _ _ _ _ _ _ _ Q12.out]; exact below_setRow B12.out (by omega) _); clear z0 z1 g0 g1; obtain ⟨g0, g1⟩ := geCells (HQF.out VG BVG.out)))
          obtain ⟨A7, c7, hc7, ho7⟩ := CVG.out
          have HQG := Lib.hid hc7
          have HEG := Lib.hid (show EL VG 0 ⟨a.n, a.e ++ [⟨(lt : Int), 7, (o : Int), 0, 0, 0, (f : Int)⟩]⟩ ⟨A7, c7⟩ from Row.base (B' := 0) (row_of_own ho7) (Nat.zero_le _))
          clear hc7 ho7 HC4 HE4 HB34 lC
          generalize a.e ++ [(⟨(lt : Int), 7, (o : Int), 0, 0, 0, (f : Int)⟩ : Ac)] = M at *
          obtain ⟨C, hCC⟩ : ∃ C, C = wv.heap.size := ⟨_, rfl⟩
          rw [← hCC] at HQG
          rw [← hCC]
          clear hCC
          go_loopw [15] (fun pp wr => ∃ p : Nat, p ≤ n ∧ pp = .int .i64 (p : Int) ∧ Below VG.heap.size VG wr) (fun pp _ => (n - (intOf pp).toNat))
          case atStart => exact ⟨0, by omega, rfl, Below.refl _ _⟩
          case round =>
            obtain ⟨p, hp, rfl, hbl⟩ := hrel
            rename World => wv
            have HBV := Lib.hid (BVG.out.trans (hbl.mono BVG.out.size))
            have HBL0 := Lib.hid hbl
            have hgq : ∀ w', Below wv.heap.size wv w' → (w'.cell? ⟨Q, 0, none⟩ = some (.int .i64 a.n) ∧ w'.cell? ⟨Q, 1, none⟩ = some (.slice A a.e.length vc) ∧ w'.cell? ⟨C, 0, none⟩ = some (.int .i64 a.n) ∧ w'.cell? ⟨C, 1, none⟩ = some (.slice A7 M.length c7) ∧ Below wv.heap.size wv w') := fun w' hw =>
              have hww := hbl.trans (hw.mono hbl.size)
              have h1 := HQF.out w' (HBV.out.trans (hw.mono HBV.out.size))
              have h2 := (hww.block _ (row_lt HQG.out)).trans HQG.out
              ⟨(geCells h1).1, (geCells h1).2, (geCells h2).1, (geCells h2).2, hw⟩
            have HKP := Lib.hid hgq
            obtain ⟨q0, q1, q2, q3, -⟩ := hgq wv (Below.refl _ _)
            by_cases hlp : p < n
            · have d9 : decide ((p : Int) < a.n) = true := decide_eq_true (by rw [HAN.out]; omega)
              have hha := fun w' (hw : Below wv.heap.size wv w') => holds_any a ⟨A, vc⟩ p (lt : Int) n w' (HEF.out w' (HBV.out.trans (hw.mono HBV.out.size))) HOK.out HAN.out hlp
              have hhc := fun w' (hw : Below wv.heap.size wv w') => holds_any ⟨a.n, M⟩ ⟨A7, c7⟩ p (lt : Int) n w' (Row.below HEG.out (hbl.trans (hw.mono hbl.size))) OKG.out HAN.out hlp
              have hhf := fun w' (hw : Below wv.heap.size wv w') => holds_any a ⟨A, vc⟩ f (lt : Int) n w' (HEF.out w' (HBV.out.trans (hw.mono HBV.out.size))) HOK.out HAN.out hfn
              have HRX := Lib.hid (fun x : Nat => RLG.out (x : Int) p)
              simp only [ge] at hha hhc hhf
              unfold SmPost at hha hhc hhf
              generalize hbA : (fun x : Nat => wB a (x : Int) (lt : Int) p) = bA at *
              generalize hbC : (fun x : Nat => wB ⟨a.n, M⟩ (x : Int) (lt : Int) p) = bC at *
              generalize hbF : (fun x : Nat => wB a (x : Int) (lt : Int) f) = bF at *
              have HRL := Lib.hid (show ∀ x, bC x = (bA x || ((p : Int) == (o : Int) && bF x)) from fun x => by rw [← hbA, ← hbC, ← hbF]; exact HRX.out x)
              have HHA := Lib.hid hha
              have HHC := Lib.hid hhc
              have HHF := Lib.hid hhf
              clear hbA hbC hha hhc HRX hgq hbl hbF hhf
              have hcA := cnt_le bA 64
              have hcC := cnt_le bC 64
              have hcF := cnt_le bF 64
              have hxA := fun (i : Nat) (hi : i < 64) => has_idx bA 64 i hi
              have hxC := fun (i : Nat) (hi : i < 64) => has_idx bC 64 i hi
              have hxF := fun (i : Nat) (hi : i < 64) => has_idx bF 64 i hi
              have HXA := Lib.hid hxA
              have HXC := Lib.hid hxC
              have HXF := Lib.hid hxF
              clear hxA hxC hxF
              generalize cnt bA 64 = nA at *
              generalize idx bA 64 = LA at *
              generalize cnt bC 64 = nC at *
              generalize idx bC 64 = LC at *
              generalize cnt bF 64 = nF at *
              generalize idx bF 64 = LF at *
              go_wp2_with fail
              have bz1 : Below wv.heap.size wv wv.drew := (Below.refl wv.heap.size wv).drew
              go_region_held3 (fun w' => w'.cell? ⟨Q, 0, none⟩ = some (.int .i64 a.n) ∧ w'.cell? ⟨Q, 1, none⟩ = some (.slice A a.e.length vc) ∧ w'.cell? ⟨C, 0, none⟩ = some (.int .i64 a.n) ∧ w'.cell? ⟨C, 1, none⟩ = some (.slice A7 M.length c7) ∧ Below wv.heap.size wv w')
                (first | (with_reducible assumption) | (with_reducible exact HKP.out _ (Below.refl _ _)) | (with_reducible exact HKP.out _ bz1) | (with_reducible exact HKP.out _ ba) | (with_reducible exact HKP.out _ bb) | (with_reducible exact HKP.out _ bf))
                (first
                  | (go_at_call 33; (with_reducible refine (HHA.out _ ?_).mono ?_); (go_split_ands; with_reducible assumption); rintro e wa ⟨X1, X1c, rfl, hown, hbb⟩; go_split_ands; have ba : Below wv.heap.size wv wa := Below.trans (by with_reducible assumption) (hbb.mono (Below.size (by with_reducible assumption))); have R1 := Lib.hid ((row_of_own hown).base (Nat.zero_le _)); clear hbb hown HHA)
                  | (go_at_call 33; (with_reducible refine (HHC.out _ ?_).mono ?_); (go_split_ands; with_reducible assumption); rintro e wb ⟨X2, X2c, rfl, hown, hbb⟩; go_split_ands; have bb : Below wv.heap.size wv wb := Below.trans (by with_reducible assumption) (hbb.mono (Below.size (by with_reducible assumption))); have R2 := Lib.hid ((row_of_own hown).base (Nat.zero_le _)); have R1b := Lib.hid (R1.out.below hbb); clear R1; clear hbb hown HHC)
                  | (go_at_call 33; (with_reducible refine (HHF.out _ ?_).mono ?_); (go_split_ands; with_reducible assumption); rintro e wf ⟨X3, X3c, rfl, hown, hbb⟩; go_split_ands; have bf : Below wv.heap.size wv wf := Below.trans (by with_reducible assumption) (hbb.mono (Below.size (by with_reducible assumption))); have R3 := Lib.hid ((row_of_own hown).base (Nat.zero_le _)); have R1c := Lib.hid (R1b.out.below hbb); have R2c := Lib.hid (R2.out.below hbb); clear R1b R2; clear hbb hown HHF))
              go_split_ands
              have BW := Lib.hid (show Below wv.heap.size wv wf from bf)
              clear ba bb bf bz1
              have hhA := fun (x : Nat) (hx : x < 64) w' (hw : Below wf.heap.size wf w') => has_any LA x X1 nA X1c w' (R1c.out.below hw) (by omega)
              have hhC := fun (x : Nat) (hx : x < 64) w' (hw : Below wf.heap.size wf w') => has_any LC x X2 nC X2c w' (R2c.out.below hw) (by omega)
              have hhF := fun (x : Nat) (hx : x < 64) w' (hw : Below wf.heap.size wf w') => has_any LF x X3 nF X3c w' (R3.out.below hw) (by omega)
              have HHA2 := Lib.hid (fun (x : Nat) (hx : x < 64) w' hw => (by have h := hhA x hx w' hw; rw [HXA.out x hx] at h; exact h : Calls Try.prog 31 #[.slice X1 nA X1c, .int .i64 (x : Int)] w' fun e w2 => e = .returned (.bool (bA x)) ∧ w2 = w'))
              have HHC2 := Lib.hid (fun (x : Nat) (hx : x < 64) w' hw => (by have h := hhC x hx w' hw; rw [HXC.out x hx] at h; exact h : Calls Try.prog 31 #[.slice X2 nC X2c, .int .i64 (x : Int)] w' fun e w2 => e = .returned (.bool (bC x)) ∧ w2 = w'))
              have HHF2 := Lib.hid (fun (x : Nat) (hx : x < 64) w' hw => (by have h := hhF x hx w' hw; rw [HXF.out x hx] at h; exact h : Calls Try.prog 31 #[.slice X3 nF X3c, .int .i64 (x : Int)] w' fun e w2 => e = .returned (.bool (bF x)) ∧ w2 = w'))
              clear hhA hhC hhF HXA HXC HXF
              go_wp2_with fail
              go_loopw [19] (fun xx wr => ∃ x : Nat, x ≤ 3 ∧ xx = .int .i64 (x : Int) ∧ Below wf.heap.size wf wr) (fun xx _ => (3 - (intOf xx).toNat))
              case atStart => exact ⟨0, by omega, rfl, Below.refl _ _⟩
              case round =>
                obtain ⟨x, hx, rfl, hbl⟩ := hrel
                rename World => wx
                have HBX := Lib.hid hbl
                by_cases hlx : x < 3
                · have d8 : decide ((x : Int) < 3) = true := decide_eq_true (by omega)
                  have ha := HHA2.out x (by omega) wx hbl
                  have hc := HHC2.out x (by omega) wx hbl
                  have hf := HHF2.out x (by omega) wx hbl
                  have hr := HRL.out x
                  generalize bA x = xA at *
                  generalize bC x = xC at *
                  generalize bF x = xF at *
                  clear hbl
                  cases xA with
                  | true =>
                    obtain rfl : xC = true := by rw [hr]; rfl
                    have HA1 := Lib.hid ha
                    have HC1 := Lib.hid hc
                    have HF1 := Lib.hid hf
                    clear ha hc hr hf
                    go_wp2_with (first | (go_at_call 31; (with_reducible refine HC1.out.mono ?_); rintro e w8 ⟨rfl, rfl⟩) | (go_at_call 31; (with_reducible refine HA1.out.mono ?_); rintro e w9 ⟨rfl, rfl⟩) | (go_at_call 31; (with_reducible refine HF1.out.mono ?_); rintro e w10 ⟨rfl, rfl⟩))
                    exact ⟨⟨x + 1, by omega, by go_num, HBX.out⟩, by simp [intOf]; omega⟩
                  | false =>
                    by_cases h1 : p = o
                    · have e1 : ((p : Int) == (o : Int)) = true := by rw [h1]; simp
                      obtain rfl : xC = xF := by rw [hr, e1]; simp
                      have e2 : (xC != xC) = false := by simp
                      have HA1 := Lib.hid ha
                      have HC1 := Lib.hid hc
                      have HF1 := Lib.hid hf
                      clear ha hc hr h1 hf
                      go_wp2_with (first | (go_at_call 31; (with_reducible refine HC1.out.mono ?_); rintro e w8 ⟨rfl, rfl⟩) | (go_at_call 31; (with_reducible refine HA1.out.mono ?_); rintro e w9 ⟨rfl, rfl⟩) | (go_at_call 31; (with_reducible refine HF1.out.mono ?_); rintro e w10 ⟨rfl, rfl⟩))
                      exact ⟨⟨x + 1, by omega, by go_num, HBX.out⟩, by simp [intOf]; omega⟩
                    · skip
                      have e1 : ((p : Int) == (o : Int)) = false := beq_eq_false_iff_ne.2 (by omega)
                      obtain rfl : xC = false := by rw [hr, e1]; simp
                      have HA1 := Lib.hid ha
                      have HC1 := Lib.hid hc
                      have HF1 := Lib.hid hf
                      clear ha hc hr h1 hf
                      go_wp2_with (first | (go_at_call 31; (with_reducible refine HC1.out.mono ?_); rintro e w8 ⟨rfl, rfl⟩) | (go_at_call 31; (with_reducible refine HA1.out.mono ?_); rintro e w9 ⟨rfl, rfl⟩) | (go_at_call 31; (with_reducible refine HF1.out.mono ?_); rintro e w10 ⟨rfl, rfl⟩))
                      exact ⟨⟨x + 1, by omega, by go_num, HBX.out⟩, by simp [intOf]; omega⟩
                · obtain rfl : x = 3 := by omega
                  have d8 : decide (((3 : Nat) : Int) < 3) = false := rfl
                  have HBY := Lib.hid (HBV.out.trans ((BW.out.trans (hbl.mono BW.out.size)).mono HBV.out.size))
                  have HBU := Lib.hid (show Below VG.heap.size VG wx from HBL0.out.trans ((BW.out.trans (hbl.mono BW.out.size)).mono HBL0.out.size))
                  clear hbl
                  go_wp2_with fail
                  exact ⟨⟨p + 1, by omega, by go_num, HBU.out⟩, by simp [intOf]; omega⟩
            · obtain rfl : n = p := by omega
              have d9 : decide ((n : Int) < a.n) = false := decide_eq_false (by rw [HAN.out]; omega)
              clear hgq hbl
              go_wp2_with (go_at_call 32; refine (awake29_any _).mono ?_; rintro e w9 ⟨rfl, hb9⟩; have HB9 := Lib.hid ((HBF.out _ HBV.out).trans (hb9.mono (HBF.out _ HBV.out).size)); clear hb9)
              go_ret
              exact ⟨by first | rfl | simp, HB9.out⟩

/-! ### THE ROW's STEP: WRITTEN OUT: LEAVE IT -/
set_option maxRecDepth 100000 in
theorem lifted (os : Os) (started : os.Started) (H : Type) (enc : TypeId × Value → H) :
    ReturnsInHanded {} Try.checked os 12 .any (Rows.copiesCopySpec.pre6 enc Try.prog Try.f12 Rows.copiesCopyRow.domain false) (Rows.copiesCopySpec.post enc Try.prog Try.f12 false true false false) := by
  refine returnsInHanded_of_change (C := Try.checked) own started (by kernel_rfl) Try.func12
    (ChangeSpec.witness6 (enc := enc) (C := Try.checked) false ⟨#[], #[.slice none 0 0], []⟩ 8 (by kernel_rfl) (by kernel_rfl) (by kernel_rfl) (by kernel_rfl)) ?_
  intro W base args ds gs before hval0 hW hcnd _
  have hval : ∀ (j : Nat) t v, Try.f12.params[j]? = some t → args[j]? = some v → Value.okWide Try.prog W .any base t v := hval0
  have hW' := hW
  obtain ⟨p, q, hA0, hV, rfl, hfz, hnd⟩ := hW
  have hA : DataW.TrodAll enc Try.prog W 0 (fun _ => true) true Try.f12.params.toList args.toList ds p := hA0
  rw [Try.params12] at hA hval
  obtain ⟨v0, vs0, d0, ds0, p0, q0, hargs, rfl, rfl, h0, r0⟩ := trodAll_cons hA
  obtain ⟨rfl, rfl, rfl⟩ := trodAll_nil r0
  obtain rfl : args = #[v0] := by cases args; simp_all
  obtain ⟨rfl, rfl⟩ := trodVars_none hV
  obtain ⟨a0, len0, cap0, rfl⟩ := okWide_slice Try.underlying22 (hval 0 22 v0 rfl rfl)
  have k0 := h0
  have lt0 : ∀ x ∈ p0, x.block < W.heap.size := by obtain ⟨m, hm⟩ := k0; exact DataW.trod_lt m _ _ _ hm
  obtain ⟨z0, w0⟩ : ∃ zs, IsRow .i64 W a0 len0 cap0 zs := by
    obtain ⟨fuel, hf⟩ := h0
    rcases open_ints Try.underlying22 Try.underlying3 (by kernel_rfl) hf with ⟨hcs, _⟩ | ⟨x, l, c, zs, hcs, _, hl, hm, hz, _, hcell, hwz⟩
    · simp [Value.cells] at hcs
      obtain ⟨rfl, rfl, rfl⟩ := hcs
      exact ⟨[], .inl ⟨rfl, rfl, rfl, rfl⟩⟩
    · simp [Value.cells] at hcs
      obtain ⟨rfl, rfl, rfl⟩ := hcs
      exact ⟨zs, .inr ⟨_, rfl, hl, hm, by simpa using hz, hcell, hwz⟩⟩
  clear hA0 hval0
  refine (walk a0 len0 cap0 z0 W w0).mono fun e W' ⟨he, bel⟩ => ?_
  subst he
  exact ⟨_, rfl, _, _, _, [], _, [], hW', trodAll_mk1 (shut_bool Try.underlying4 _), (trodAll_cons_mk (Below.trod laidOut (by kernel_rfl) (of_decide_eq_true (by kernel_rfl)) k0 bel lt0) trodAll_mk0), rfl, bel.frame _, fun h => by cases h⟩

theorem over : Rows.copiesCopyRow.holds Try.pinned (OpenSpec.ofChange Rows.copiesCopySpec) :=
  OpenClaim.holds_of_wide 12 Try.f12 rfl rfl rfl rfl rfl rfl rfl ⟨rfl, rfl, rfl, rfl, rfl⟩ rfl rfl rfl rfl rfl (by kernel_rfl) Try.func12 (by kernel_rfl)
    (of_decide_eq_true (by kernel_rfl)) (by unfold Func.isWrapper; first | (rw [if_pos (by decide +kernel)]; kernel_rfl) | (rw [if_neg (by decide +kernel)]; exact ⟨rfl, rfl⟩))
    (fun os started H enc _ => lifted os started H enc)

/-- ████ THE STATEMENT ████ -/
theorem proved : Rows.CopiesCopySaid := over
#print axioms proved
end Go.Proofs.Ytfdmneceecaocaa.copiesCopy
