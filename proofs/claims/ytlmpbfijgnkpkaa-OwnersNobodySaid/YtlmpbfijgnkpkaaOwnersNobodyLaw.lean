/-
  The Go function leakresponse/leakresponselaw26.OwnersNobody returns true for every list of numbers, and leaves what was there as it was; no conditions. A principal whose steward is nobody ends each way that leads to it.
-/
import Derived.Test.YtlmpbfijgnkpkaaDjF
import Derived.Test.YtlmpbfijgnkpkaaRows
import Derived.WalkKit
import Derived.ProofKit
import Derived.OpenShut
import Derived.ShutString
import Derived.ChangeOld
import Derived.Below
import Derived.StillTailTactics
import Derived.Deep.CutBlock
namespace Go.Proofs.Ytlmpbfijgnkpkaa.ownersNobody
open Go.ChangeShapes Go.WideShapes Go.ChangeAt Go.RowKit
open Go.ChangeMaps (open_string shut_string)
open Go.Proofs.Ytlmpbfijgnkpkaa.Tp
open Go.Proofs.Ytlmpbfijgnkpkaa.Di
set_option linter.unusedVariables false

theorem le_lt {n : Nat} {l : List Sw} (h : MkS n l) : lastS l ≤ 1000 := by
  unfold lastS
  split
  · omega
  · exact h.t _ (by omega)
theorem fpS (d : Dy) (c : List Nat) : (fp d c).isSome = anyB (fun i => kd d (c.getD i 0) == 1) c.length := by
  rw [Bool.eq_iff_iff, any_iff]
  unfold fp
  rw [List.find?_isSome]
  constructor
  · rintro ⟨x, hx, h⟩
    obtain ⟨i, hi, rfl⟩ := List.getElem_of_mem hx
    refine ⟨i, hi, ?_⟩
    rw [List.getD_eq_getElem?_getD, List.getElem?_eq_getElem hi]
    exact h
  · rintro ⟨i, hi, h⟩
    rw [List.getD_eq_getElem?_getD, List.getElem?_eq_getElem hi] at h
    exact ⟨c[i], List.getElem_mem hi, h⟩
theorem anyB_at (p : Nat → Bool) (i : Nat) : anyB p (i + 1) = (anyB p i || p i) := rfl

set_option maxRecDepth 100000 in
set_option maxHeartbeats 4000000 in
theorem walk (a0 : Option Addr) (len0 cap0 : Nat) (z0 : List Int) (w : World) (w0 : IsRow .i64 w a0 len0 cap0 z0) :
    Calls Try.prog 7 #[.slice a0 len0 cap0] w fun e w' => e = .returned (.bool true) ∧ Below w.heap.size w w' := by
  have hm := w0.at_.1
  unfold maxLen at hm
  have HTP := Lib.hid (tape_new w0)
  have HBX := Lib.hid (box_below w (.cells #[.slice a0 len0 cap0, .int .i64 0] 30))
  clear w0
  by_cases hlen : 300 < len0
  · have hl0 : (300 : Int) < (len0 : Int) := by omega
    go_enter Try.func7, Try.ntmps7
    go_wp2_with (go_at_call 8; refine (awake_any _).mono ?_; rintro e w1 ⟨rfl, hb1⟩; have HB1 := Lib.hid hb1; clear hb1)
    go_ret
    exact ⟨rfl, HB1.out⟩
  · have hl0 : (len0 : Int) ≤ (300 : Int) := by omega
    go_enter Try.func7, Try.ntmps7
    go_wp2_with fail
    refine (directory_any w.heap.size _ HTP.out (by simp)).mono ?_
    rintro e w1 ⟨d, v, rfl, hmk, hrl, hg1, ht1⟩
    have hb1 : Below w.heap.size w w1 := HBX.out.grown hg1 HBX.out.size (fun k e => by cases e; exact Nat.le_refl _)
    have hs1 := hg1.size
    simp at hs1
    have HQ := Lib.hid (heap_alloc_new w1 (.cells (gd d v) 25))
    have HDL := Lib.hid ((hrl.base (show w.heap.size + 1 ≤ _ by simp)).below (box_below w1 (.cells (gd d v) 25)))
    have HB1 := Lib.hid (hb1.trans ((box_below w1 (.cells (gd d v) 25)).mono hb1.size))
    have HT1 := Lib.hid (tape_new2 ht1 (.cells (gd d v) 25))
    have HMK := Lib.hid hmk
    have hn1 := hmk.n1
    have hn7 := hmk.n7
    clear hrl hg1 ht1 hb1 hmk
    obtain ⟨g0, g1⟩ := gdCells HQ.out
    go_wp2_with (with_reducible (show wpList _ _ _ (⟨none, .store 25 (.tmp 4) (.tmp 23), _, _, _, _⟩ :: _) _ _); refine wpList_store_row (o := ⟨none, .store 25 (.tmp 4) (.tmp 23), _, _, _, _⟩) rfl 25 (.tmp 4) (.tmp 23) rfl w1.heap.size (gd d v) rfl rfl 25 zD (heap_alloc_new _ _) (info25 _ _) rfl (gd_one _ _) ?_; rw [new_set])
    have HF := Lib.hid (show (#[.slice v.A1 d.k.length v.c1, .slice v.A2 d.e.length v.c2] : Array Value) = gd d v from rfl)
    rw [HF.out]
    refine (stewards_any w.heap.size 0 d v _ HT1.out (by simp; omega) hn1 (by omega)).mono ?_
    rintro e w2 ⟨l, A, cc, rfl, hms, hown, hg2, ht2⟩
    generalize w1.heap.size = Q at *
    generalize w1.alloc (.cells (gd d v) 25) = W1 at *
    have lQ : Q < W1.heap.size := row_lt HQ.out
    have HQ2 := Lib.hid ((hg2.block _ lQ (fun e => by injection e; omega)).trans HQ.out)
    have HD2 := Lib.hid (HDL.out.grown hg2 (fun g e => by cases e; omega))
    have HB2 := Lib.hid (HB1.out.grown hg2 HB1.out.size (fun k e => by cases e; exact Nat.le_refl _))
    have HT2 := Lib.hid ht2
    have HS2 := Lib.hid ((row_of_own hown).base (show w.heap.size + 1 ≤ W1.heap.size by omega))
    have HMS := Lib.hid hms
    have hm9 := hms.m9
    clear hg2 ht2 g0 g1 HQ HDL HB1 HT1 lQ hown hms
    generalize w2 = W2 at *
    have HOK := Lib.hid HMK.out.ok
    have HSK := Lib.hid HMS.out.ok
    have lQ : Q < W2.heap.size := row_lt HQ2.out
    obtain ⟨g0, g1⟩ := gdCells HQ2.out
    obtain ⟨lt, hlt⟩ : ∃ k : Nat, lastS l = k := ⟨_, rfl⟩
    have HLT := Lib.hid hlt
    clear hlt
    go_upto_if 29 with fail
    go_cut [6] from 27 to 36 (fun s6 wx => s6 = .int .i64 (lt : Int) ∧ W2 = wx)
    case first =>
      by_cases hE : l.length = 0
      · have hd : decide ((0 : Int) < (l.length : Int)) = false := decide_eq_false (by omega)
        have hd2 : ¬ 0 < l.length := by omega
        have hl0 : (0 : Int) = (lt : Int) := by rw [← HLT.out]; unfold lastS; rw [if_pos hE]; rfl
        have HL0 := Lib.hid hl0
        clear hl0 hE
        go_wp2_with fail
        go_meet
        case rel => exact ⟨by rw [HL0.out], rfl⟩
      · have hd : decide ((0 : Int) < (l.length : Int)) = true := decide_eq_true (by omega)
        have hd2 : 0 < l.length := by omega
        obtain ⟨m, hm⟩ : ∃ m, l.length = m + 1 := ⟨l.length - 1, by omega⟩
        obtain ⟨be, oe, hA2, -, -, y0, -, -⟩ := HS2.out.sw (show m < l.length by omega)
        have hy : ((sg l m).t : Nat) = lt := by rw [← HLT.out]; unfold lastS; rw [if_neg (by omega), show l.length - 1 = m by omega]
        rw [hy] at y0
        have hw1 : IntKind.i64.wrap ((l.length : Int) - 1) = (m : Int) := by rw [IntWalk.i64_in _ (by omega)]; omega
        have hw2 : (l.length : Int) - 1 = (m : Int) := by omega
        have m2' : (m : Int) ≤ 11 := by omega
        have m0' : (0 : Int) ≤ (m : Int) := by omega
        have m1' : (m : Int) < (l.length : Int) := by omega
        subst hA2
        clear hE hm hy
        go_wp2_with fail
        go_meet
        case rel => exact ⟨rfl, rfl⟩
    case rest =>
    obtain ⟨rfl, rfl⟩ := hcut
    have hlt := le_lt HMS.out
    rw [HLT.out] at hlt
    go_wp2_with fail
    refine (next_any w.heap.size d.k.length _ HT2.out (by omega) (by omega)).mono ?_
    rintro e wn ⟨zi, a1, b1, rfl, hgn, htn⟩
    obtain ⟨p, rfl⟩ : ∃ z : Nat, zi = z := ⟨zi.toNat, by omega⟩
    have BN := Lib.hid (HB2.out.grown hgn HB2.out.size (fun k e => by cases e; exact Nat.le_refl _))
    have HQN := Lib.hid ((hgn.block Q lQ (fun e => by injection e; omega)).trans HQ2.out)
    have HDN := Lib.hid (HD2.out.grown hgn (fun g e => by cases e; omega))
    have HSN := Lib.hid (HS2.out.grown hgn (fun g e => by cases e; omega))
    have hpn : p < d.k.length := by omega
    obtain ⟨j0, hj1, hy0, hy1, hy2⟩ := info_parts zinfo35
    have HJ := Lib.hid hj1
    have HJ0 := Lib.hid hy0
    have HJ1 := Lib.hid hy1
    have HJ2 := Lib.hid hy2
    have lN := row_lt HQN.out
    clear hj1 hy0 hy1 hy2 a1 b1 hgn htn g0 g1
    go_wp2_with (first
      | (at_builtin; refine app_list rfl (.const (.slice none 0 0)) (.tmp 42) wn.heap.size _ 26 35 rfl j0 (.agg #[.int .i64 0, .int .i64 0, .int .i64 0]) 3 24 Try.underlying26 HJ.out HJ0.out HJ1.out HJ2.out rfl (by omega) (.slice none 0 0) 0 [] rfl (own_nil _ _ _ _) A l.length cc (sv l) rfl HSN.out (sv_one _) (by omega) (by omega) (Nat.le_refl _) ?_; intro v1 w5 hown1 hgr1 _; rw [Nat.zero_add, List.nil_append] at hown1; have O5 := Lib.hid hown1; have B5 := Lib.hid ((Below.refl wn.heap.size wn).grown hgr1 (Nat.le_refl _) (fun k e => by cases e)); clear hown1 hgr1)
      | (at_builtin; refine wpList_append_own _ rfl (.tmp 43) (.tmp 47) 26 rfl wn.heap.size 35 j0 (.agg #[.int .i64 0, .int .i64 0, .int .i64 0]) 3 24 Try.underlying26 HJ.out HJ0.out HJ1.out HJ2.out rfl (by decide) _ l.length (sv l) rfl (O5.out.alloc _) ⟨w5.heap.size, 0, none⟩ 1 1 [.int .i64 (lt : Int), .int .i64 (p : Int), .int .i64 (-1)] rfl rfl (World.news_of_block (heap_alloc_new w5 _)) (by simp [Value.oneCell']) (by unfold maxLen; omega) (by omega) (by have := B5.out.size; simp; omega) ?_; intro v' w6 hown hgr _; have B6 := Lib.hid (far_below B5.out O5.out hgr (Nat.le_refl _)); have O6 := Lib.hid hown; obtain ⟨A2, c2, rfl⟩ := own_form hown; clear hown hgr; obtain ⟨g0, g1⟩ := gdCells ((B6.out.block _ lN).trans HQN.out)))
    have l6 : Q < w6.heap.size := by have := B6.out.size; omega
    have HQ6 := Lib.hid ((B6.out.block _ lN).trans HQN.out)
    have HD6 := Lib.hid (HDN.out.below B6.out)
    have HB6 := Lib.hid (BN.out.trans (B6.out.mono BN.out.size))
    have hr6 : Row w6 0 3 A2 (l.length + 1) (sv (l ++ [⟨lt, p, -1⟩])) := by rw [sv_snoc]; exact (row_of_own O6.out).base (Nat.zero_le _)
    have hok6 : SOk d.k.length (l ++ [⟨lt, p, -1⟩]) := by
      have := HMS.out.m9
      refine HSK.out.add (by omega) (show lt ≤ 1099511627776 by omega) hpn (.inl rfl) (fun j hj => ?_)
      have h1 := HSK.out.le_last hj
      have h2 := HLT.out
      show _ ≤ lt
      omega
    have hs3 : stw (l ++ [⟨lt, p, -1⟩]) (p : Int) (lt : Int) = -1 := by
      have hb3 : swB ⟨lt, p, -1⟩ (p : Int) (lt : Int) = true := by
        show ((p : Int) == (p : Int) && decide ((lt : Int) ≤ (lt : Int))) = true
        simp
      rw [stw_snoc, hb3]; rfl
    have hml : (l ++ [(⟨lt, p, -1⟩ : Sw)]).length = l.length + 1 := by simp
    generalize l ++ [(⟨lt, p, -1⟩ : Sw)] = M at *
    have hwp : Wy (fun q => stw M q lt) d.k.length p [p] := by
      refine ⟨by simp, rfl, fun x hx => ?_, by simp, fun i hi => absurd hi (by simp), .inl hs3⟩
      rw [List.mem_singleton] at hx; omega
    have how := fun (y : Nat) (hy : y < d.k.length) w' (hw : Below w6.heap.size w6 w') => way20_any _ d v M A2 c2 y lt w' (HD6.out.below hw) (by rw [hml]; exact hr6.below hw) HOK.out hok6 hy
    have hop := fun w' (hw : Below w6.heap.size w6 w') => of_any _ d v M A2 c2 p lt w' (HD6.out.below hw) (by rw [hml]; exact hr6.below hw) HOK.out hok6
    have hor := fun w' (hw : Below w6.heap.size w6 w') => orphans_any _ d v M A2 c2 lt w' (HD6.out.below hw) (by rw [hml]; exact hr6.below hw) HOK.out hok6
    simp only [gd, hml, hs3] at how hop hor
    have HOW := Lib.hid how
    have HOP := Lib.hid hop
    have HOR := Lib.hid hor
    have HWP := Lib.hid hwp
    have HFX := Lib.hid (show ∀ y c, Wy (fun q => stw M q lt) d.k.length y c → orphB d M lt y = !(anyB (fun i => kd d (c.getD i 0) == 1) c.length) from fun y c hc => by unfold orphB onr; rw [hc.eq, fpS])
    have HHI := Lib.hid (show ∀ y, y < d.k.length → anyB (fun j => (idx (orphB d M lt) d.k.length).getD j 0 == y) (cnt (orphB d M lt) d.k.length) = orphB d M lt y from fun y hy => has_idx _ _ _ hy)
    have HKP := Lib.hid (fun w' (hw : Below w6.heap.size w6 w') => gdCells ((hw.block _ l6).trans HQ6.out))
    have hcl := cnt_le (orphB d M lt) d.k.length
    unfold SmPost at HOR
    generalize cnt (orphB d M lt) d.k.length = no at *
    generalize idx (orphB d M lt) d.k.length = LO at *
    generalize orphB d M lt = oB at *
    have HR6 := Lib.hid (Below.refl w6.heap.size w6)
    clear hr6 hok6 hs3 how hop hor hwp
    go_wp2_with (first
      | (go_at_call 20; (with_reducible refine (HOW.out p hpn _ HR6.out).mono ?_); rintro e wa ⟨ca, Aa, ka, rfl, hca, hra, hba⟩; obtain rfl := hca.uniq HWP.out; have Ba := Lib.hid hba; have hbx := box_below wa (.cells #[.int .i64 (p : Int)] 3); have HLa := Lib.hid (lits_row wa wa.heap.size rfl [p] #[.int .i64 (p : Int)] rfl 3); have Bb := Lib.hid (hba.trans (hbx.mono hba.size)); have HIS := Lib.hid (ints_same Aa (some ⟨wa.heap.size, 0, none⟩) 1 ka 1 [p] (wa.alloc (.cells #[.int .i64 (p : Int)] 3)) (((row_of_own hra).base (Nat.zero_le _)).below hbx) (HLa.out.base (Nat.zero_le _)) (by omega)); clear hca hra hba hbx)
      | (go_at_call 19; (with_reducible refine HIS.out.mono ?_); rintro e wb ⟨rfl, hbb⟩; have Bc := Lib.hid (Bb.out.trans (hbb.mono Bb.out.size)); obtain ⟨k0, k1⟩ := HKP.out _ Bc.out; clear hbb HIS)
      | (go_at_call 17; (with_reducible refine (HOP.out _ Bc.out).mono ?_); rintro e wc ⟨rfl, hbc⟩; have Bd := Lib.hid (Bc.out.trans (hbc.mono Bc.out.size)); obtain ⟨m0, m1⟩ := HKP.out _ Bd.out; clear hbc)
      | (go_at_call 22; (with_reducible refine (HOR.out _ Bd.out).mono ?_); rintro e wd ⟨AO, kO, rfl, hro, hbd⟩; have Be := Lib.hid (Bd.out.trans (hbd.mono Bd.out.size)); have HRO := Lib.hid ((row_of_own hro).base (Nat.zero_le _)); obtain ⟨n0, n1⟩ := HKP.out _ Be.out; clear hbd hro))
    clear g0 g1 k0 k1 m0 m1 n0 n1 HR6 HOP HOR
    go_loopw [73] (fun ii wr => ∃ k : Nat, k ≤ d.k.length ∧ ii = .int .i64 (k : Int) ∧ Below wd.heap.size wd wr) (fun ii _ => d.k.length - (intOf ii).toNat)
    case atStart => exact ⟨0, by omega, rfl, Below.refl _ _⟩
    case round =>
      obtain ⟨k, hk, rfl, hbl⟩ := hrel
      have HBL := Lib.hid hbl
      have HBK := Lib.hid (Be.out.trans (hbl.mono Be.out.size))
      obtain ⟨g0, g1⟩ := HKP.out _ HBK.out
      by_cases hlk : k < d.k.length
      · have HW := Lib.hid (HOW.out k hlk _ HBK.out)
        have j1 : (k : Int) < (d.k.length : Int) := by omega
        clear hbl
        go_wp2_with fail
        refine HW.out.mono ?_
        rintro e we ⟨c, Ac, kc, rfl, hcw, hrc, hbe⟩
        have HCW := Lib.hid hcw
        have HRC := Lib.hid (row_of_own hrc)
        have HBE := Lib.hid (HBL.out.trans (hbe.mono HBL.out.size))
        have HBW := Lib.hid (HBK.out.trans (hbe.mono HBK.out.size))
        obtain ⟨k0, k1⟩ := HKP.out _ (HBK.out.trans (hbe.mono HBK.out.size))
        have hcn : c.length ≤ d.k.length := nodup_le _ _ hcw.nd hcw.lt
        have hc1 := hcw.ne
        obtain ⟨m, hm⟩ : ∃ m, c.length = m + 1 := ⟨c.length - 1, by omega⟩
        obtain ⟨bc, oc, hAc, -, -, y0⟩ := HRC.out.int (i := m) (by omega)
        subst hAc
        have e0 : ((c.length : Int) == 0) = false := beq_eq_false_iff_ne.2 (by omega)
        have hw1 : IntKind.i64.wrap ((c.length : Int) - 1) = (m : Int) := by rw [IntWalk.i64_in _ (by omega)]; omega
        have hw2 : (c.length : Int) - 1 = (m : Int) := by omega
        have m0' : (0 : Int) ≤ (m : Int) := by omega
        have m1' : (m : Int) < (c.length : Int) := by omega
        have HCL := Lib.hid hm
        generalize c.getD m 0 = y at *
        clear hcw hrc hbe hm g0 g1
        by_cases hy : y = p
        · have e1 : ((y : Int) != (p : Int)) = false := by rw [hy]; simp
          clear hy
          obtain ⟨pB, hpB⟩ : ∃ pB : Nat → Bool, (fun i => kd d (c.getD i 0) == 1) = pB := ⟨_, rfl⟩
          have hox := HFX.out k c HCW.out
          have hpB2 : ∀ i, pB i = (kd d (c.getD i 0) == 1) := fun i => by rw [← hpB]
          rw [hpB] at hox
          have HOX := Lib.hid hox
          have HPB := Lib.hid hpB2
          have H0 := Lib.hid (show anyB pB 0 = false from rfl)
          have HST := Lib.hid (show ∀ i, anyB pB (i + 1) = (anyB pB i || pB i) from fun i => rfl)
          generalize anyB pB = aB at *
          clear hox hpB hpB2
          go_wp2_with fail
          go_loopw [12, 96] (fun sv' ii wv => ∃ i : Nat, i ≤ c.length ∧ ii = .int .i64 (i : Int) ∧ sv' = .bool (aB i) ∧ wv = we) (fun _ ii _ => c.length - (intOf ii).toNat)
          case atStart => exact ⟨0, by omega, rfl, by rw [H0.out], rfl⟩
          case round =>
            obtain ⟨i, hi, rfl, rfl, rfl⟩ := hrel
            by_cases hli : i < c.length
            · obtain ⟨b2, o2, hA2, -, -, x0⟩ := HRC.out.int hli
              cases hA2
              have hxn := HCW.out.get hli
              have HSI := Lib.hid (HST.out i)
              have HPI := Lib.hid (HPB.out i)
              obtain ⟨bk, ok, hAk, -, -, x1⟩ := (HD6.out.below HBW.out).r1.int hxn
              have hK : d.k.getD (c.getD i 0) 0 = kd d (c.getD i 0) := rfl
              rw [hK] at x1
              generalize c.getD i 0 = x at *
              rw [hAk] at k0
              have HAK := Lib.hid hAk
              have i0 : (0 : Int) ≤ (i : Int) := by omega
              have i1 : (i : Int) < (c.length : Int) := by omega
              have q0 : (0 : Int) ≤ (x : Int) := by omega
              have q1 : (x : Int) < (d.k.length : Int) := by omega
              clear hK hAk y0
              generalize aB i = fl at *
              cases fl with
              | true =>
                go_wp2_with fail
                exact ⟨⟨i + 1, by omega, by go_num, by rw [HSI.out]; rfl, by first | rfl | trivial⟩, by simp [intOf]; omega⟩
              | false =>
                by_cases e : kd d x = 1
                · have k9 : (((kd d x : Nat) : Int) == 1) = true := by rw [e]; rfl
                  have HE := Lib.hid e
                  clear e
                  go_wp2_with fail
                  exact ⟨⟨i + 1, by omega, by go_num, by rw [HSI.out, HPI.out, HE.out]; rfl, by first | rfl | trivial⟩, by simp [intOf]; omega⟩
                · have k9 : (((kd d x : Nat) : Int) == 1) = false := beq_eq_false_iff_ne.2 (by omega)
                  have HE := Lib.hid (show (kd d x == 1) = false from beq_eq_false_iff_ne.2 e)
                  clear e
                  go_wp2_with fail
                  exact ⟨⟨i + 1, by omega, by go_num, by rw [HSI.out, HPI.out, HE.out]; rfl, by first | rfl | trivial⟩, by simp [intOf]; omega⟩
            · obtain rfl : i = c.length := by omega
              have hHS := has_any LO k AO no kO _ (HRO.out.below HBE.out) (by omega)
              rw [HHI.out k hlk, HOX.out] at hHS
              have HHS := Lib.hid hHS
              clear hHS y0
              generalize aB c.length = fl at *
              cases fl with
              | true =>
                go_wp2_with (go_at_call 26; (with_reducible refine HHS.out.mono ?_); rintro e wf ⟨rfl, rfl⟩)
                exact ⟨⟨k + 1, by omega, by go_num, HBE.out⟩, by simp [intOf]; omega⟩
              | false =>
                go_wp2_with (go_at_call 26; (with_reducible refine HHS.out.mono ?_); rintro e wf ⟨rfl, rfl⟩)
                exact ⟨⟨k + 1, by omega, by go_num, HBE.out⟩, by simp [intOf]; omega⟩
        · have e1 : ((y : Int) != (p : Int)) = true := by rw [bne, beq_eq_false_iff_ne.2 (show (y : Int) ≠ (p : Int) by omega)]; rfl
          clear hy
          go_wp2_with fail
          exact ⟨⟨k + 1, by omega, by go_num, HBE.out⟩, by simp [intOf]; omega⟩
      · obtain rfl : k = d.k.length := by omega
        have HBZ := Lib.hid (HB6.out.trans (HBK.out.mono HB6.out.size))
        clear hbl
        go_wp2_with (go_at_call 8; refine (awake_any _).mono ?_; rintro e w9 ⟨rfl, hb9⟩; have HB9 := Lib.hid (HBZ.out.trans (hb9.mono HBZ.out.size)); clear hb9)
        go_ret
        exact ⟨rfl, HB9.out⟩

/-! ### THE ROW's STEP: WRITTEN OUT: LEAVE IT -/
set_option maxRecDepth 100000 in
theorem lifted (os : Os) (started : os.Started) (H : Type) (enc : TypeId × Value → H) :
    ReturnsInHanded {} Try.checked os 7 .any (Rows.ownersNobodySpec.pre6 enc Try.prog Try.f7 Rows.ownersNobodyRow.domain false) (Rows.ownersNobodySpec.post enc Try.prog Try.f7 false true false false) := by
  refine returnsInHanded_of_change (C := Try.checked) own started (by kernel_rfl) Try.func7
    (ChangeSpec.witness6 (enc := enc) (C := Try.checked) false ⟨#[], #[.slice none 0 0], []⟩ 8 (by kernel_rfl) (by kernel_rfl) (by kernel_rfl) (by kernel_rfl)) ?_
  intro W base args ds gs before hval0 hW hcnd _
  have hval : ∀ (j : Nat) t v, Try.f7.params[j]? = some t → args[j]? = some v → Value.okWide Try.prog W .any base t v := hval0
  have hW' := hW
  obtain ⟨p, q, hA0, hV, rfl, hfz, hnd⟩ := hW
  have hA : DataW.TrodAll enc Try.prog W 0 (fun _ => true) true Try.f7.params.toList args.toList ds p := hA0
  rw [Try.params7] at hA hval
  obtain ⟨v0, vs0, d0, ds0, p0, q0, hargs, rfl, rfl, h0, r0⟩ := trodAll_cons hA
  obtain ⟨rfl, rfl, rfl⟩ := trodAll_nil r0
  obtain rfl : args = #[v0] := by cases args; simp_all
  obtain ⟨rfl, rfl⟩ := trodVars_none hV
  obtain ⟨a0, len0, cap0, rfl⟩ := okWide_slice Try.underlying22 (hval 0 22 v0 rfl rfl)
  have k0 := h0
  have lt0 : ∀ x ∈ p0, x.block < W.heap.size := by obtain ⟨m, hm⟩ := k0; exact DataW.trod_lt m _ _ _ hm
  obtain ⟨z0, w0⟩ : ∃ zs, IsRow .i64 W a0 len0 cap0 zs := by
    obtain ⟨fuel, hf⟩ := h0
    rcases open_ints Try.underlying22 Try.underlying3 (by kernel_rfl) hf with ⟨hcs, _⟩ | ⟨x, l, c, zs, hcs, _, hl, hm, hz, _, hcell, hwz⟩
    · simp [Value.cells] at hcs
      obtain ⟨rfl, rfl, rfl⟩ := hcs
      exact ⟨[], .inl ⟨rfl, rfl, rfl, rfl⟩⟩
    · simp [Value.cells] at hcs
      obtain ⟨rfl, rfl, rfl⟩ := hcs
      exact ⟨zs, .inr ⟨_, rfl, hl, hm, by simpa using hz, hcell, hwz⟩⟩
  clear hA0 hval0
  refine (walk a0 len0 cap0 z0 W w0).mono fun e W' ⟨he, bel⟩ => ?_
  subst he
  exact ⟨_, rfl, _, _, _, [], _, [], hW', trodAll_mk1 (shut_bool Try.underlying4 _), (trodAll_cons_mk (Below.trod laidOut (by kernel_rfl) (of_decide_eq_true (by kernel_rfl)) k0 bel lt0) trodAll_mk0), rfl, bel.frame _, fun h => by cases h⟩

theorem over : Rows.ownersNobodyRow.holds Try.pinned (OpenSpec.ofChange Rows.ownersNobodySpec) :=
  OpenClaim.holds_of_wide 7 Try.f7 rfl rfl rfl rfl rfl rfl rfl ⟨rfl, rfl, rfl, rfl, rfl⟩ rfl rfl rfl rfl rfl (by kernel_rfl) Try.func7 (by kernel_rfl)
    (of_decide_eq_true (by kernel_rfl)) (by unfold Func.isWrapper; first | (rw [if_pos (by decide +kernel)]; kernel_rfl) | (rw [if_neg (by decide +kernel)]; exact ⟨rfl, rfl⟩))
    (fun os started H enc _ => lifted os started H enc)

/-- ████ THE STATEMENT ████ -/
theorem proved : Rows.OwnersNobodySaid := over
#print axioms proved
end Go.Proofs.Ytlmpbfijgnkpkaa.ownersNobody
