/-
  The Go function leakresponse/leakresponselaw26.OwnersNew returns true for every list of numbers, and leaves what was there as it was; no conditions. An event more, of another time, gives its subject a new steward and nobody else.
-/
import Derived.Test.YtlmpbfijgnkpkaaDjF
import Derived.Test.YtlmpbfijgnkpkaaRows
import Derived.WalkKit
import Derived.ProofKit
import Derived.OpenShut
import Derived.ShutString
import Derived.ChangeOld
import Derived.Below
import Derived.StillTailTactics
import Derived.Deep.CutBlock
namespace Go.Proofs.Ytlmpbfijgnkpkaa.ownersNew
open Go.ChangeShapes Go.WideShapes Go.ChangeAt Go.RowKit
open Go.ChangeMaps (open_string shut_string)
open Go.Proofs.Ytlmpbfijgnkpkaa.Tp
open Go.Proofs.Ytlmpbfijgnkpkaa.Di
set_option linter.unusedVariables false

theorem le_lt {n : Nat} {l : List Sw} (h : MkS n l) : lastS l ≤ 1000 := by
  unfold lastS
  split
  · omega
  · exact h.t _ (by omega)

set_option maxRecDepth 100000 in
set_option maxHeartbeats 4000000 in
theorem walk (a0 : Option Addr) (len0 cap0 : Nat) (z0 : List Int) (w : World) (w0 : IsRow .i64 w a0 len0 cap0 z0) :
    Calls Try.prog 6 #[.slice a0 len0 cap0] w fun e w' => e = .returned (.bool true) ∧ Below w.heap.size w w' := by
  have hm := w0.at_.1
  unfold maxLen at hm
  have HTP := Lib.hid (tape_new w0)
  have HBX := Lib.hid (box_below w (.cells #[.slice a0 len0 cap0, .int .i64 0] 30))
  clear w0
  by_cases hlen : 300 < len0
  · have hl0 : (300 : Int) < (len0 : Int) := by omega
    go_enter Try.func6, Try.ntmps6
    go_wp2_with (go_at_call 8; refine (awake_any _).mono ?_; rintro e w1 ⟨rfl, hb1⟩; have HB1 := Lib.hid hb1; clear hb1)
    go_ret
    exact ⟨rfl, HB1.out⟩
  · have hl0 : (len0 : Int) ≤ (300 : Int) := by omega
    go_enter Try.func6, Try.ntmps6
    go_wp2_with fail
    refine (directory_any w.heap.size _ HTP.out (by simp)).mono ?_
    rintro e w1 ⟨d, v, rfl, hmk, hrl, hg1, ht1⟩
    have hb1 : Below w.heap.size w w1 := HBX.out.grown hg1 HBX.out.size (fun k e => by cases e; exact Nat.le_refl _)
    have hs1 := hg1.size
    simp at hs1
    have HQ := Lib.hid (heap_alloc_new w1 (.cells (gd d v) 25))
    have HDL := Lib.hid ((hrl.base (show w.heap.size + 1 ≤ _ by simp)).below (box_below w1 (.cells (gd d v) 25)))
    have HB1 := Lib.hid (hb1.trans ((box_below w1 (.cells (gd d v) 25)).mono hb1.size))
    have HT1 := Lib.hid (tape_new2 ht1 (.cells (gd d v) 25))
    have HMK := Lib.hid hmk
    have hn1 := hmk.n1
    have hn7 := hmk.n7
    clear hrl hg1 ht1 hb1 hmk
    obtain ⟨g0, g1⟩ := gdCells HQ.out
    go_wp2_with (with_reducible (show wpList _ _ _ (⟨none, .store 25 (.tmp 4) (.tmp 19), _, _, _, _⟩ :: _) _ _); refine wpList_store_row (o := ⟨none, .store 25 (.tmp 4) (.tmp 19), _, _, _, _⟩) rfl 25 (.tmp 4) (.tmp 19) rfl w1.heap.size (gd d v) rfl rfl 25 zD (heap_alloc_new _ _) (info25 _ _) rfl (gd_one _ _) ?_; rw [new_set])
    have HF := Lib.hid (show (#[.slice v.A1 d.k.length v.c1, .slice v.A2 d.e.length v.c2] : Array Value) = gd d v from rfl)
    rw [HF.out]
    refine (stewards_any w.heap.size 0 d v _ HT1.out (by simp; omega) hn1 (by omega)).mono ?_
    rintro e w2 ⟨l, A, cc, rfl, hms, hown, hg2, ht2⟩
    generalize w1.heap.size = Q at *
    generalize w1.alloc (.cells (gd d v) 25) = W1 at *
    have lQ : Q < W1.heap.size := row_lt HQ.out
    have HQ2 := Lib.hid ((hg2.block _ lQ (fun e => by injection e; omega)).trans HQ.out)
    have HD2 := Lib.hid (HDL.out.grown hg2 (fun g e => by cases e; omega))
    have HB2 := Lib.hid (HB1.out.grown hg2 HB1.out.size (fun k e => by cases e; exact Nat.le_refl _))
    have HT2 := Lib.hid ht2
    have HS2 := Lib.hid ((row_of_own hown).base (show w.heap.size + 1 ≤ W1.heap.size by omega))
    have HMS := Lib.hid hms
    have hm9 := hms.m9
    clear hg2 ht2 g0 g1 HQ HDL HB1 HT1 lQ hown hms
    generalize w2 = W2 at *
    have HOK := Lib.hid HMK.out.ok
    have HSK := Lib.hid HMS.out.ok
    have lQ : Q < W2.heap.size := row_lt HQ2.out
    obtain ⟨g0, g1⟩ := gdCells HQ2.out
    obtain ⟨lt, hlt⟩ : ∃ k : Nat, lastS l = k := ⟨_, rfl⟩
    have HLT := Lib.hid hlt
    clear hlt
    go_upto_if 25 with fail
    go_cut [6] from 23 to 32 (fun s6 wx => s6 = .int .i64 (lt : Int) ∧ W2 = wx)
    case first =>
      by_cases hE : l.length = 0
      · have hd : decide ((0 : Int) < (l.length : Int)) = false := decide_eq_false (by omega)
        have hd2 : ¬ 0 < l.length := by omega
        have hl0 : (0 : Int) = (lt : Int) := by rw [← HLT.out]; unfold lastS; rw [if_pos hE]; rfl
        have HL0 := Lib.hid hl0
        clear hl0 hE
        go_wp2_with fail
        go_meet
        case rel => exact ⟨by rw [HL0.out], rfl⟩
      · have hd : decide ((0 : Int) < (l.length : Int)) = true := decide_eq_true (by omega)
        have hd2 : 0 < l.length := by omega
        obtain ⟨m, hm⟩ : ∃ m, l.length = m + 1 := ⟨l.length - 1, by omega⟩
        obtain ⟨be, oe, hA2, -, -, y0, -, -⟩ := HS2.out.sw (show m < l.length by omega)
        have hy : ((sg l m).t : Nat) = lt := by rw [← HLT.out]; unfold lastS; rw [if_neg (by omega), show l.length - 1 = m by omega]
        rw [hy] at y0
        have hw1 : IntKind.i64.wrap ((l.length : Int) - 1) = (m : Int) := by rw [IntWalk.i64_in _ (by omega)]; omega
        have hw2 : (l.length : Int) - 1 = (m : Int) := by omega
        have m2' : (m : Int) ≤ 11 := by omega
        have m0' : (0 : Int) ≤ (m : Int) := by omega
        have m1' : (m : Int) < (l.length : Int) := by omega
        subst hA2
        clear hE hm hy
        go_wp2_with fail
        go_meet
        case rel => exact ⟨rfl, rfl⟩
    case rest =>
    obtain ⟨rfl, rfl⟩ := hcut
    have hlt := le_lt HMS.out
    rw [HLT.out] at hlt
    have hnx := fun w' (h : TapeOk w' w.heap.size) => next_any w.heap.size d.k.length w' h (by omega) (by omega)
    have HNX1 := Lib.hid hnx
    have HM1 := Lib.hid True.intro
    have hk : ∀ w', W2.grownBy w' (some w.heap.size) → TapeOk w' w.heap.size → w'.cell? ⟨Q, 0, none⟩ = some (.slice v.A1 d.k.length v.c1) ∧ W2.grownBy w' (some w.heap.size) ∧ TapeOk w' w.heap.size := fun w' hg ht => ⟨(gdCells ((hg.block _ lQ (fun e => by injection e; omega)).trans HQ2.out)).1, hg, ht⟩
    have HK := Lib.hid hk
    have gd0 : W2.grownBy W2.drew (some w.heap.size) := gb_drewN W2 1 _
    have td0 : TapeOk W2.drew w.heap.size := HT2.out
    clear hnx hk
    go_wp2_with fail
    go_region_held3 (fun w' => w'.cell? ⟨Q, 0, none⟩ = some (.slice v.A1 d.k.length v.c1) ∧ W2.grownBy w' (some w.heap.size) ∧ TapeOk w' w.heap.size)
      (first | (with_reducible assumption) | (with_reducible exact HK.out _ gd0 td0) | (with_reducible exact HK.out _ ga ta) | (with_reducible exact HK.out _ gn tn))
      (first
        | (go_at_call 11; clear HM1; (with_reducible refine (HNX1.out _ ?_).mono ?_); (go_split_ands; with_reducible assumption); rintro e wm ⟨zi, a1, b1, rfl, hga, hta⟩; obtain ⟨p, rfl⟩ : ∃ z : Nat, zi = z := ⟨zi.toNat, by omega⟩; go_split_ands; have ga : W2.grownBy wm (some w.heap.size) := gb_trans (by with_reducible assumption) hga; have ta := hta; clear hga hta)
        | (go_at_call 11; (with_reducible refine (HNX1.out _ ?_).mono ?_); (go_split_ands; with_reducible assumption); rintro e wn ⟨zj, a2, b2, rfl, hgn, htn⟩; obtain ⟨q, rfl⟩ : ∃ z : Nat, zj = z := ⟨zj.toNat, by omega⟩; go_split_ands; have gn : W2.grownBy wn (some w.heap.size) := gb_trans (by with_reducible assumption) hgn; have tn := htn; clear hgn htn))
    go_split_ands
    have hgn : W2.grownBy wn (some w.heap.size) := gn
    have BN := Lib.hid (HB2.out.grown hgn HB2.out.size (fun k e => by cases e; exact Nat.le_refl _))
    have HQN := Lib.hid ((hgn.block Q lQ (fun e => by injection e; omega)).trans HQ2.out)
    have HDN := Lib.hid (HD2.out.grown hgn (fun g e => by cases e; omega))
    have HSN := Lib.hid (HS2.out.grown hgn (fun g e => by cases e; omega))
    have hpn : p < d.k.length := by omega
    have hqn : q < d.k.length := by omega
    clear ga ta gn tn hgn gd0 td0 a1 b1 a2 b2 HK HNX1 g0 g1
    by_cases hpq : p = q
    · have e5 : ((p : Int) == (q : Int)) = true := by rw [hpq]; simp
      clear hpq
      go_wp2_with (go_at_call 8; refine (awake_any _).mono ?_; rintro e w9 ⟨rfl, hb9⟩; have HB9 := Lib.hid (BN.out.trans (hb9.mono BN.out.size)); clear hb9)
      go_ret
      exact ⟨rfl, HB9.out⟩
    · have e5 : ((p : Int) == (q : Int)) = false := beq_eq_false_iff_ne.2 (by omega)
      have HPQ := Lib.hid hpq
      obtain ⟨lu, hlu⟩ : ∃ lu : Nat, lt + 1 = lu := ⟨_, rfl⟩
      have hsum : (lt : Int) + 1 = (lu : Int) := by omega
      have hlu2 : lu ≤ 1001 := by omega
      have HLU := Lib.hid hlu
      obtain ⟨j0, hj1, hy0, hy1, hy2⟩ := info_parts zinfo35
      have HJ := Lib.hid hj1
      have HJ0 := Lib.hid hy0
      have HJ1 := Lib.hid hy1
      have HJ2 := Lib.hid hy2
      have lN := row_lt HQN.out
      clear hj1 hy0 hy1 hy2 hpq hlu
      go_wp2_with (first
        | (at_builtin; refine app_list rfl (.const (.slice none 0 0)) (.tmp 47) wn.heap.size _ 26 35 rfl j0 (.agg #[.int .i64 0, .int .i64 0, .int .i64 0]) 3 24 Try.underlying26 HJ.out HJ0.out HJ1.out HJ2.out rfl (by omega) (.slice none 0 0) 0 [] rfl (own_nil _ _ _ _) A l.length cc (sv l) rfl HSN.out (sv_one _) (by omega) (by omega) (Nat.le_refl _) ?_; intro v1 w5 hown1 hgr1 _; rw [Nat.zero_add, List.nil_append] at hown1; have O5 := Lib.hid hown1; have B5 := Lib.hid ((Below.refl wn.heap.size wn).grown hgr1 (Nat.le_refl _) (fun k e => by cases e)); clear hown1 hgr1)
        | (at_builtin; refine wpList_append_own _ rfl (.tmp 48) (.tmp 54) 26 rfl wn.heap.size 35 j0 (.agg #[.int .i64 0, .int .i64 0, .int .i64 0]) 3 24 Try.underlying26 HJ.out HJ0.out HJ1.out HJ2.out rfl (by decide) _ l.length (sv l) rfl (O5.out.alloc _) ⟨w5.heap.size, 0, none⟩ 1 1 [.int .i64 (lu : Int), .int .i64 (p : Int), .int .i64 (q : Int)] rfl rfl (World.news_of_block (heap_alloc_new w5 _)) (by simp [Value.oneCell']) (by unfold maxLen; omega) (by omega) (by have := B5.out.size; simp; omega) ?_; intro v' w6 hown hgr _; have B6 := Lib.hid (far_below B5.out O5.out hgr (Nat.le_refl _)); have O6 := Lib.hid hown; obtain ⟨A2, c2, rfl⟩ := own_form hown; clear hown hgr; obtain ⟨g0, g1⟩ := gdCells ((B6.out.block _ lN).trans HQN.out)))
      have l6 : Q < w6.heap.size := by have := B6.out.size; omega
      have HQ6 := Lib.hid ((B6.out.block _ lN).trans HQN.out)
      have HD6 := Lib.hid (HDN.out.below B6.out)
      have HS6 := Lib.hid (HSN.out.below B6.out)
      have HB6 := Lib.hid (BN.out.trans (B6.out.mono BN.out.size))
      have hr6 : Row w6 0 3 A2 (l.length + 1) (sv (l ++ [⟨lu, p, q⟩])) := by rw [sv_snoc]; exact (row_of_own O6.out).base (Nat.zero_le _)
      have hok6 : SOk d.k.length (l ++ [⟨lu, p, q⟩]) := by
        have := HMS.out.m9
        refine HSK.out.add (by omega) (show lu ≤ 1099511627776 by omega) hpn (.inr ⟨by show (0 : Int) ≤ (q : Int); omega, by show (q : Int) < (d.k.length : Int); omega, by show (q : Int) ≠ (p : Int); have := HPQ.out; omega⟩) (fun j hj => ?_)
        have h1 := HSK.out.le_last hj
        have h2 := HLT.out
        have h3 := HLU.out
        show _ ≤ lu
        omega
      have hb1 : ∀ y : Nat, swB ⟨lu, p, q⟩ (y : Int) (lt : Int) = false := fun y => by
        have h3 := HLU.out
        have h4 : ¬ ((lu : Int) ≤ (lt : Int)) := by omega
        show ((p : Int) == (y : Int) && decide ((lu : Int) ≤ (lt : Int))) = false
        rw [decide_eq_false h4, Bool.and_false]
      have hb2 : ∀ y : Nat, y ≠ p → swB ⟨lu, p, q⟩ (y : Int) (lu : Int) = false := fun y hy => by
        show ((p : Int) == (y : Int) && decide ((lu : Int) ≤ (lu : Int))) = false
        rw [beq_eq_false_iff_ne.2 (show (p : Int) ≠ (y : Int) by omega), Bool.false_and]
      have hb3 : swB ⟨lu, p, q⟩ (p : Int) (lu : Int) = true := by
        show ((p : Int) == (p : Int) && decide ((lu : Int) ≤ (lu : Int))) = true
        simp
      have hs1 : ∀ y : Nat, stw (l ++ [⟨lu, p, q⟩]) (y : Int) (lt : Int) = stw l y lt := fun y => by rw [stw_snoc, hb1]; rfl
      have hs2 : ∀ y : Nat, y ≠ p → stw (l ++ [⟨lu, p, q⟩]) (y : Int) (lu : Int) = stw l y lu := fun y hy => by rw [stw_snoc, hb2 y hy]; rfl
      have hs3 : stw (l ++ [⟨lu, p, q⟩]) (p : Int) (lu : Int) = (q : Int) := by rw [stw_snoc, hb3]; rfl
      have hml : (l ++ [(⟨lu, p, q⟩ : Sw)]).length = l.length + 1 := by simp
      generalize l ++ [(⟨lu, p, q⟩ : Sw)] = M at *
      have hof := fun (y t : Nat) w' (hw : Below w6.heap.size w6 w') => of_any _ d v l A cc y t w' (HD6.out.below hw) ((HS6.out.base (Nat.zero_le _)).below hw) HOK.out HSK.out
      have hog := fun (y t : Nat) w' (hw : Below w6.heap.size w6 w') => of_any _ d v M A2 c2 y t w' (HD6.out.below hw) (by rw [hml]; exact hr6.below hw) HOK.out hok6
      have hh1 := fun (y : Nat) w' hw => hog y lt w' hw
      have hh2 := fun (y : Nat) w' hw => hog y lu w' hw
      simp only [gd, hml, hs1] at hof hh1 hh2
      have hh3 : ∀ y : Nat, y ≠ p → _ := fun (y : Nat) (hy : y ≠ p) w' hw => (hs2 y hy) ▸ hh2 y w' hw
      have hh4 := fun w' hw => hs3 ▸ hh2 p w' hw
      have HOF := Lib.hid hof
      have HH1 := Lib.hid hh1
      have HH3 := Lib.hid hh3
      have HH4 := Lib.hid hh4
      have HKP := Lib.hid (fun w' (hw : Below w6.heap.size w6 w') => gdCells ((hw.block _ l6).trans HQ6.out))
      clear hr6 hok6 hb1 hb2 hb3 hs1 hs2 hs3 hof hog hh1 hh2 hh3 hh4 hsum
      have hsum : (lt : Int) + 1 = (lu : Int) := by have := HLU.out; omega
      have hwu : IntKind.i64.wrap (lu : Int) = (lu : Int) := IntWalk.i64_in _ (by omega)
      go_wp2_with fail
      clear g0 g1
      go_loopw [59] (fun ii wr => ∃ k : Nat, k ≤ d.k.length ∧ ii = .int .i64 (k : Int) ∧ Below w6.heap.size w6 wr) (fun ii _ => d.k.length - (intOf ii).toNat)
      case atStart => exact ⟨0, by omega, rfl, Below.refl _ _⟩
      case round =>
        obtain ⟨k, hk, rfl, hbl⟩ := hrel
        have HBL := Lib.hid hbl
        obtain ⟨g0, g1⟩ := HKP.out _ hbl
        by_cases hlk : k < d.k.length
        · have HA1 := Lib.hid (fun w' (hw : Below wr.heap.size wr w') => HOF.out k lt w' (hbl.trans (hw.mono hbl.size)))
          have HA2 := Lib.hid (fun w' (hw : Below wr.heap.size wr w') => HH1.out k w' (hbl.trans (hw.mono hbl.size)))
          have HK := Lib.hid (show ∀ w', Below wr.heap.size wr w' → w'.cell? ⟨Q, 0, none⟩ = some (.slice v.A1 d.k.length v.c1) ∧ w'.cell? ⟨Q, 1, none⟩ = some (.slice v.A2 d.e.length v.c2) ∧ Below wr.heap.size wr w' from fun w' hw => ⟨(HKP.out w' (hbl.trans (hw.mono hbl.size))).1, (HKP.out w' (hbl.trans (hw.mono hbl.size))).2, hw⟩)
          have hbr : Below wr.heap.size wr wr := Below.refl _ _
          have hbd : Below wr.heap.size wr wr.drew := hbr.drew
          have hne1 : (stw l (k : Int) (lt : Int) != stw l (k : Int) (lt : Int)) = false := by simp
          generalize stw l (k : Int) (lt : Int) = s1 at *
          have j1 : (k : Int) < (d.k.length : Int) := by omega
          clear hbl
          go_wp2_with fail
          go_region_held3 (fun w' => w'.cell? ⟨Q, 0, none⟩ = some (.slice v.A1 d.k.length v.c1) ∧ w'.cell? ⟨Q, 1, none⟩ = some (.slice v.A2 d.e.length v.c2) ∧ Below wr.heap.size wr w')
            (first | (with_reducible assumption) | (with_reducible exact HK.out _ hbr) | (with_reducible exact HK.out _ hbd) | (with_reducible exact HK.out _ ba) | (with_reducible exact HK.out _ bb))
            (first
              | (go_at_call 17; (with_reducible refine (HA1.out _ ?_).mono ?_); (go_split_ands; with_reducible assumption); rintro e wa ⟨rfl, hba⟩; go_split_ands; have ba : Below wr.heap.size wr wa := Below.trans (by with_reducible assumption) (hba.mono (Below.size (by with_reducible assumption))); clear hba)
              | (go_at_call 17; (with_reducible refine (HA2.out _ ?_).mono ?_); (go_split_ands; with_reducible assumption); rintro e wb ⟨rfl, hbb⟩; go_split_ands; have bb : Below wr.heap.size wr wb := Below.trans (by with_reducible assumption) (hbb.mono (Below.size (by with_reducible assumption))); clear hbb))
          go_split_ands
          have BB := Lib.hid bb
          have bbr : Below wr.heap.size wr wb := BB.out
          have bbd : Below wr.heap.size wr wb.drew := BB.out.drew
          by_cases hkp : k = p
          · have e7 : ((k : Int) != (p : Int)) = false := by rw [hkp]; simp
            clear hkp HA1 HA2 ba bb hne1 bbr bbd
            go_wp2_with fail
            go_quiet (fail)
            go_wp2_with fail
            exact ⟨⟨k + 1, by omega, by go_num, (by refine HBL.out.trans (Below.mono (BB.out.trans (Below.mono (B := wb.heap.size) ?_ BB.out.size)) HBL.out.size); exact ⟨rfl, rfl, rfl, Nat.le_refl _, fun _ _ => rfl⟩)⟩, by simp [intOf]; omega⟩
          · have e7 : ((k : Int) != (p : Int)) = true := by rw [bne, beq_eq_false_iff_ne.2 (show (k : Int) ≠ (p : Int) by omega)]; rfl
            have HC1 := Lib.hid (fun w' (hw : Below wr.heap.size wr w') => HH3.out k hkp w' (HBL.out.trans (hw.mono HBL.out.size)))
            have HC2 := Lib.hid (fun w' (hw : Below wr.heap.size wr w') => HOF.out k lu w' (HBL.out.trans (hw.mono HBL.out.size)))
            have hne2 : (stw l (k : Int) (lu : Int) != stw l (k : Int) (lu : Int)) = false := by simp
            generalize stw l (k : Int) (lu : Int) = s2 at *
            clear hkp HA1 HA2 ba bb hne1
            go_wp2_with fail
            go_region_held3 (fun w' => w'.cell? ⟨Q, 0, none⟩ = some (.slice v.A1 d.k.length v.c1) ∧ w'.cell? ⟨Q, 1, none⟩ = some (.slice v.A2 d.e.length v.c2) ∧ Below wr.heap.size wr w')
              (first | (with_reducible assumption) | (with_reducible exact HK.out _ bbr) | (with_reducible exact HK.out _ bbd) | (with_reducible exact HK.out _ bc) | (with_reducible exact HK.out _ be))
              (first
                | (go_at_call 17; (with_reducible refine (HC1.out _ ?_).mono ?_); (go_split_ands; with_reducible assumption); rintro e wc ⟨rfl, hbc⟩; go_split_ands; have bc : Below wr.heap.size wr wc := Below.trans (by with_reducible assumption) (hbc.mono (Below.size (by with_reducible assumption))); clear hbc)
                | (go_at_call 17; (with_reducible refine (HC2.out _ ?_).mono ?_); (go_split_ands; with_reducible assumption); rintro e we ⟨rfl, hbe⟩; go_split_ands; have be : Below wr.heap.size wr we := Below.trans (by with_reducible assumption) (hbe.mono (Below.size (by with_reducible assumption))); clear hbe))
            go_split_ands
            have BE := Lib.hid be
            clear bc be
            go_wp2_with fail
            exact ⟨⟨k + 1, by omega, by go_num, HBL.out.trans (BE.out.mono HBL.out.size)⟩, by simp [intOf]; omega⟩
        · obtain rfl : k = d.k.length := by omega
          have HP := Lib.hid (HH4.out _ hbl)
          clear hbl
          go_wp2_with (first
            | (go_at_call 17; (with_reducible refine HP.out.mono ?_); rintro e w8 ⟨rfl, hb8⟩; have B8 := Lib.hid (HB6.out.trans ((HBL.out.trans (hb8.mono HBL.out.size)).mono HB6.out.size)); clear hb8)
            | (go_at_call 8; refine (awake_any _).mono ?_; rintro e w9 ⟨rfl, hb9⟩; have B9 := Lib.hid (B8.out.trans (hb9.mono B8.out.size)); clear hb9))
          go_ret
          exact ⟨by first | rfl | simp, B9.out⟩

/-! ### THE ROW's STEP: WRITTEN OUT: LEAVE IT -/
set_option maxRecDepth 100000 in
theorem lifted (os : Os) (started : os.Started) (H : Type) (enc : TypeId × Value → H) :
    ReturnsInHanded {} Try.checked os 6 .any (Rows.ownersNewSpec.pre6 enc Try.prog Try.f6 Rows.ownersNewRow.domain false) (Rows.ownersNewSpec.post enc Try.prog Try.f6 false true false false) := by
  refine returnsInHanded_of_change (C := Try.checked) own started (by kernel_rfl) Try.func6
    (ChangeSpec.witness6 (enc := enc) (C := Try.checked) false ⟨#[], #[.slice none 0 0], []⟩ 8 (by kernel_rfl) (by kernel_rfl) (by kernel_rfl) (by kernel_rfl)) ?_
  intro W base args ds gs before hval0 hW hcnd _
  have hval : ∀ (j : Nat) t v, Try.f6.params[j]? = some t → args[j]? = some v → Value.okWide Try.prog W .any base t v := hval0
  have hW' := hW
  obtain ⟨p, q, hA0, hV, rfl, hfz, hnd⟩ := hW
  have hA : DataW.TrodAll enc Try.prog W 0 (fun _ => true) true Try.f6.params.toList args.toList ds p := hA0
  rw [Try.params6] at hA hval
  obtain ⟨v0, vs0, d0, ds0, p0, q0, hargs, rfl, rfl, h0, r0⟩ := trodAll_cons hA
  obtain ⟨rfl, rfl, rfl⟩ := trodAll_nil r0
  obtain rfl : args = #[v0] := by cases args; simp_all
  obtain ⟨rfl, rfl⟩ := trodVars_none hV
  obtain ⟨a0, len0, cap0, rfl⟩ := okWide_slice Try.underlying22 (hval 0 22 v0 rfl rfl)
  have k0 := h0
  have lt0 : ∀ x ∈ p0, x.block < W.heap.size := by obtain ⟨m, hm⟩ := k0; exact DataW.trod_lt m _ _ _ hm
  obtain ⟨z0, w0⟩ : ∃ zs, IsRow .i64 W a0 len0 cap0 zs := by
    obtain ⟨fuel, hf⟩ := h0
    rcases open_ints Try.underlying22 Try.underlying3 (by kernel_rfl) hf with ⟨hcs, _⟩ | ⟨x, l, c, zs, hcs, _, hl, hm, hz, _, hcell, hwz⟩
    · simp [Value.cells] at hcs
      obtain ⟨rfl, rfl, rfl⟩ := hcs
      exact ⟨[], .inl ⟨rfl, rfl, rfl, rfl⟩⟩
    · simp [Value.cells] at hcs
      obtain ⟨rfl, rfl, rfl⟩ := hcs
      exact ⟨zs, .inr ⟨_, rfl, hl, hm, by simpa using hz, hcell, hwz⟩⟩
  clear hA0 hval0
  refine (walk a0 len0 cap0 z0 W w0).mono fun e W' ⟨he, bel⟩ => ?_
  subst he
  exact ⟨_, rfl, _, _, _, [], _, [], hW', trodAll_mk1 (shut_bool Try.underlying4 _), (trodAll_cons_mk (Below.trod laidOut (by kernel_rfl) (of_decide_eq_true (by kernel_rfl)) k0 bel lt0) trodAll_mk0), rfl, bel.frame _, fun h => by cases h⟩

theorem over : Rows.ownersNewRow.holds Try.pinned (OpenSpec.ofChange Rows.ownersNewSpec) :=
  OpenClaim.holds_of_wide 6 Try.f6 rfl rfl rfl rfl rfl rfl rfl ⟨rfl, rfl, rfl, rfl, rfl⟩ rfl rfl rfl rfl rfl (by kernel_rfl) Try.func6 (by kernel_rfl)
    (of_decide_eq_true (by kernel_rfl)) (by unfold Func.isWrapper; first | (rw [if_pos (by decide +kernel)]; kernel_rfl) | (rw [if_neg (by decide +kernel)]; exact ⟨rfl, rfl⟩))
    (fun os started H enc _ => lifted os started H enc)

/-- ████ THE STATEMENT ████ -/
theorem proved : Rows.OwnersNewSaid := over
#print axioms proved
end Go.Proofs.Ytlmpbfijgnkpkaa.ownersNew
