/-
  The Go function leakresponse/leakresponselaw23.DirectoryUnions returns true for every list of numbers, and leaves what was there as it was; no conditions. The members of a group are those that are directly in it, and the members of the groups that are directly in it.
-/
import Derived.Test.YtdhofngildjifaaDjI
import Derived.Test.YtdhofngildjifaaRows
import Derived.WalkKit
import Derived.ProofKit
import Derived.OpenShut
import Derived.ShutString
import Derived.ChangeOld
import Derived.Below
namespace Go.Proofs.Ytdhofngildjifaa.directoryUnions
open Go.ChangeShapes Go.WideShapes Go.ChangeAt Go.RowKit
open Go.ChangeMaps (open_string shut_string)
open Go.Proofs.Ytdhofngildjifaa.Tp
open Go.Proofs.Ytdhofngildjifaa.Di
set_option linter.unusedVariables false

set_option maxRecDepth 100000 in
set_option maxHeartbeats 4000000 in
theorem walk (a0 : Option Addr) (len0 cap0 : Nat) (z0 : List Int) (w : World) (w0 : IsRow .i64 w a0 len0 cap0 z0) :
    Calls Try.prog 7 #[.slice a0 len0 cap0] w fun e w' => e = .returned (.bool true) ∧ Below w.heap.size w w' := by
  have hm := w0.at_.1
  unfold maxLen at hm
  have HTP := Lib.hid (tape_new w0)
  have HBX := Lib.hid (box_below w (.cells #[.slice a0 len0 cap0, .int .i64 0] 29))
  clear w0
  by_cases hlen : 300 < len0
  · have hl0 : (300 : Int) < (len0 : Int) := by omega
    go_enter Try.func7, Try.ntmps7
    go_wp2_with (go_at_call 10; refine (awake_any _).mono ?_; rintro e w1 ⟨rfl, hb1⟩; have HB1 := Lib.hid hb1; clear hb1)
    go_ret
    exact ⟨rfl, HB1.out⟩
  · have hl0 : (len0 : Int) ≤ (300 : Int) := by omega
    go_enter Try.func7, Try.ntmps7
    go_wp2_with fail
    refine (directory_any w.heap.size _ HTP.out (by simp)).mono ?_
    rintro e w1 ⟨d, v, rfl, hmk, hrl, hg1, ht1⟩
    have hb1 : Below w.heap.size w w1 := HBX.out.grown hg1 HBX.out.size (fun k e => by cases e; exact Nat.le_refl _)
    have hs1 := hg1.size
    simp at hs1
    have HQ := Lib.hid (heap_alloc_new w1 (.cells (gd d v) 25))
    have HDL := Lib.hid ((hrl.base (show w.heap.size + 1 ≤ _ by simp)).below (box_below w1 (.cells (gd d v) 25)))
    have HB1 := Lib.hid (hb1.trans ((box_below w1 (.cells (gd d v) 25)).mono hb1.size))
    have HT1 := Lib.hid (tape_new2 ht1 (.cells (gd d v) 25))
    have HMK := Lib.hid hmk
    have hn1 := hmk.n1
    have hn7 := hmk.n7
    clear hrl hg1 ht1 hb1 hmk
    obtain ⟨g0, g1⟩ := gdCells HQ.out
    go_wp2_with (with_reducible (show wpList _ _ _ (⟨none, .store 25 (.tmp 4) (.tmp 23), _, _, _, _⟩ :: _) _ _); refine wpList_store_row (o := ⟨none, .store 25 (.tmp 4) (.tmp 23), _, _, _, _⟩) rfl 25 (.tmp 4) (.tmp 23) rfl w1.heap.size (gd d v) rfl rfl 25 zD (heap_alloc_new _ _) (info25 _ _) rfl (gd_one _ _) ?_; rw [new_set])
    refine (next_any w.heap.size 24 _ HT1.out (by omega) (by omega)).mono ?_
    rintro e w2 ⟨zt, zt0, zt1, rfl, hg2, ht2⟩
    obtain ⟨t, rfl⟩ : ∃ z : Nat, zt = z := ⟨zt.toNat, by omega⟩
    generalize w1.heap.size = Q at *
    generalize w1.alloc (.cells (gd d v) 25) = W1 at *
    have lQ : Q < W1.heap.size := row_lt HQ.out
    have HQ2 := Lib.hid ((hg2.block _ lQ (fun e => by injection e; omega)).trans HQ.out)
    have HD2 := Lib.hid (HDL.out.grown hg2 (fun g e => by cases e; omega))
    have HB2 := Lib.hid (HB1.out.grown hg2 HB1.out.size (fun k e => by cases e; exact Nat.le_refl _))
    have HT2 := Lib.hid ht2
    clear hg2 ht2 g0 g1 HQ HDL HB1 HT1 lQ
    generalize w2 = W2 at *
    have HOK := Lib.hid HMK.out.ok
    have lQ : Q < W2.heap.size := row_lt HQ2.out
    have hgs := fun w' (hw : Below W2.heap.size W2 w') => groups_any _ d v w' (HD2.out.below hw) (by omega)
    have hdi := fun g w' (hw : Below W2.heap.size W2 w') => direct_any _ d v g t w' (HD2.out.below hw) HOK.out
    have hms := fun g w' (hw : Below W2.heap.size W2 w') => members22_any _ d v g t w' (HD2.out.below hw) HOK.out
    have hrd := fun p w' (hw : Below W2.heap.size W2 w') => reader_any _ d v p w' (HD2.out.below hw) (by omega)
    simp only [gd] at hgs hdi hms hrd
    have HGS := Lib.hid hgs
    have HDI := Lib.hid hdi
    have HMS := Lib.hid hms
    have HRDR := Lib.hid hrd
    have HGC := Lib.hid (fun w' (hw : Below W2.heap.size W2 w') => gdCells ((hw.block _ lQ).trans HQ2.out))
    clear hgs hdi hms hrd
    obtain ⟨g0, g1⟩ := gdCells HQ2.out
    go_wp2_with fail
    refine (HGS.out W2 (Below.refl _ _)).mono ?_
    rintro e w3 ⟨Ag, cg, rfl, hown3, hb3⟩
    have hcn := cnt_le (gB d) d.k.length
    have hpm : ∀ r, r < cnt (gB d) d.k.length → (idx (gB d) d.k.length).getD r 0 < d.k.length ∧ kd d ((idx (gB d) d.k.length).getD r 0) = 2 := fun r hr => ⟨(at_idx hr).1, ((gB_iff _ _).1 (at_idx hr).2).2⟩
    generalize cnt (gB d) d.k.length = n1 at *
    generalize idx (gB d) d.k.length = L1 at *
    have HPM := Lib.hid hpm
    have HR3 := Lib.hid (row_of_own hown3)
    have B3 := Lib.hid hb3
    clear hpm hown3 hb3 g0 g1
    go_wp2_with fail
    go_loopw [29] (fun ii wr => ∃ k : Nat, k ≤ n1 ∧ ii = .int .i64 k ∧ Below w3.heap.size w3 wr) (fun ii _ => n1 - (intOf ii).toNat)
    case atStart => exact ⟨0, by omega, rfl, Below.refl _ _⟩
    case round =>
      obtain ⟨k, hk, rfl, hbl⟩ := hrel
      have HB3K := Lib.hid hbl
      have HBK := Lib.hid (B3.out.trans (hbl.mono B3.out.size))
      by_cases hlt : k < n1
      · obtain ⟨b, off, hAg, -, -, y0⟩ := (HR3.out.below hbl).int hlt
        subst hAg
        obtain ⟨hgl, hg2⟩ := HPM.out k hlt
        generalize L1.getD k 0 = g at *
        have i0 : (0 : Int) ≤ (k : Int) := by omega
        have i1 : (k : Int) < (n1 : Int) := by omega
        have hwn := fun q (hq : q < d.k.length) => want_all (t := t) (q := q) HOK.out hgl hg2 hq
        have hd1 := HDI.out g
        have hmg := HMS.out g
        have hcd := cnt_le (fun q => dm d t q g) d.k.length
        have hdl : ∀ j, j < cnt (fun q => dm d t q g) d.k.length → (idx (fun q => dm d t q g) d.k.length).getD j 0 < d.k.length := fun j hj => (at_idx hj).1
        unfold SmPost at hd1
        generalize cnt (fun q => dm d t q g) d.k.length = nD at *
        generalize idx (fun q => dm d t q g) d.k.length = LD at *
        have hfn : ∀ q, q < d.k.length → anyB (fun j => (idx (memB d t g) d.k.length).getD j 0 == q) (cnt (memB d t g) d.k.length) = memB d t g q := fun q hq => has_idx _ _ _ hq
        have hcg := cnt_le (memB d t g) d.k.length
        unfold SmPost at hmg
        generalize cnt (memB d t g) d.k.length = nM at *
        generalize idx (memB d t g) d.k.length = LM at *
        have HWN := Lib.hid (fun q (hq : q < d.k.length) => (hfn q hq).trans (hwn q hq).symm)
        have HD1 := Lib.hid hd1
        have HMG := Lib.hid hmg
        have HDL := Lib.hid hdl
        have hax := heap_alloc_new wr (.cells #[.bool false, .bool false, .bool false, .bool false, .bool false, .bool false, .bool false, .bool false, .bool false, .bool false, .bool false, .bool false, .bool false, .bool false, .bool false, .bool false, .bool false, .bool false, .bool false, .bool false, .bool false, .bool false, .bool false, .bool false] 53)
        have hbx := box_below wr (.cells #[.bool false, .bool false, .bool false, .bool false, .bool false, .bool false, .bool false, .bool false, .bool false, .bool false, .bool false, .bool false, .bool false, .bool false, .bool false, .bool false, .bool false, .bool false, .bool false, .bool false, .bool false, .bool false, .bool false, .bool false] 53)
        have HAX := Lib.hid hax
        have HBX := Lib.hid hbx
        obtain ⟨g0, g1⟩ := HGC.out _ (HBK.out.trans (hbx.mono HBK.out.size))
        have hWX := HBK.out.size
        have hW3 := HB3K.out.size
        have hDX : (wr.alloc (.cells #[.bool false, .bool false, .bool false, .bool false, .bool false, .bool false, .bool false, .bool false, .bool false, .bool false, .bool false, .bool false, .bool false, .bool false, .bool false, .bool false, .bool false, .bool false, .bool false, .bool false, .bool false, .bool false, .bool false, .bool false] 53)).heap.size = wr.heap.size + 1 := by simp
        have HDX := Lib.hid hDX
        clear hwn hd1 hmg hdl hfn hax hbx hbl hDX
        have hd0 := HD1.out _ (HBK.out.trans (HBX.out.mono HBK.out.size))
        go_wp2_with fail
        refine hd0.mono ?_
        rintro e w4 ⟨AD, cD, rfl, hownD, hb4⟩
        clear hd0
        have HA4 := Lib.hid ((hb4.block _ (row_lt HAX.out)).trans HAX.out)
        have HB4 := Lib.hid (HBX.out.trans (hb4.mono HBX.out.size))
        rw [HDX.out] at hownD
        have HR4 := Lib.hid (row_of_own hownD)
        clear hownD hb4 g0 g1 HAX HBX HDX y0
        generalize wr.heap.size = X at *
        generalize wr = WB at *
        have HTO := Lib.hid (fun w' (hw : Below X WB w') => HBK.out.trans (hw.mono hWX))
        rw [← arr_no] at HA4
        go_wp2_with fail
        go_loopw [38] (fun ii wr => ∃ (j : Nat) (F : Nat → Bool), j ≤ nD ∧ ii = .int .i64 j ∧ Below X WB wr ∧ wr.heap[X]? = some (.cells (arr F) 53 (0, 0)) ∧ (∀ q, q < d.k.length → F q = wnt d t LD q j) ∧ Row wr (X + 1) 1 AD nD (iv LD)) (fun ii _ => nD - (intOf ii).toNat)
        case atStart => exact ⟨0, _, by omega, rfl, HB4.out, HA4.out, fun q hq => rfl, HR4.out⟩
        case round =>
          obtain ⟨j, F, hj, rfl, hbl, har, hF, hrd⟩ := hrel
          have HBJ := Lib.hid hbl
          have HAR := Lib.hid har
          have HF := Lib.hid hF
          have HRD := Lib.hid hrd
          clear HR4 HA4 HB4
          by_cases hlj : j < nD
          · obtain ⟨bD, oD, hAD, -, -, y0⟩ := hrd.int hlj
            subst hAD
            have hpn := HDL.out j hlj
            have hwx : ∀ q, wnt d t LD q (j + 1) = (wnt d t LD q j || ((LD.getD j 0 == q && rB d (LD.getD j 0)) || memB d t (LD.getD j 0) q)) := fun q => rfl
            generalize LD.getD j 0 = p at *
            have HWX := Lib.hid hwx
            obtain ⟨k0, k1⟩ := HGC.out _ (HTO.out _ hbl)
            have hRDp := HRDR.out p
            have hMS := HMS.out p
            have hfm : ∀ q, q < d.k.length → anyB (fun j => (idx (memB d t p) d.k.length).getD j 0 == q) (cnt (memB d t p) d.k.length) = memB d t p q := fun q hq => has_idx _ _ _ hq
            have hml : ∀ j, j < cnt (memB d t p) d.k.length → (idx (memB d t p) d.k.length).getD j 0 < d.k.length := fun j hj => (at_idx hj).1
            have hcm := cnt_le (memB d t p) d.k.length
            unfold SmPost at hMS
            generalize cnt (memB d t p) d.k.length = nm at *
            generalize idx (memB d t p) d.k.length = Lm at *
            have HMS1 := Lib.hid hMS
            have HFM := Lib.hid hfm
            have HML := Lib.hid hml
            have HRP := Lib.hid hRDp
            have i0 : (0 : Int) ≤ (j : Int) := by omega
            have i1 : (j : Int) < (nD : Int) := by omega
            have p0 : (0 : Int) ≤ (p : Int) := by omega
            have p1 : (p : Int) < (d.k.length : Int) := by omega
            have p2 : (p : Int) < 24 := by omega
            have q1 : decide ((p : Int) < 0) = false := decide_eq_false (by omega)
            have q2 : decide (d.k.length ≤ p) = false := decide_eq_false (by omega)
            clear hbl har hF hrd hwx hRDp hMS hfm hml
            go_upto_region 15 with fail
            go_cut [10] from 51 to 60 (fun s10 wx => s10 = .int .i64 (p : Int) ∧ ∃ F1 : Nat → Bool, Below X WB wx ∧ wx.heap[X]? = some (.cells (arr F1) 53 (0, 0)) ∧ (∀ q, q < d.k.length → F1 q = (F q || (p == q && rB d p))) ∧ Row wx (X + 1) 1 (some ⟨bD, oD, none⟩) nD (iv LD))
            case first =>
              obtain ⟨c0, f0⟩ := arr_cell HAR.out (show p < 24 by omega)
              cases hfp : F p with
              | true =>
                rw [hfp] at c0
                have HFP := Lib.hid hfp
                clear hfp
                go_wp2_with fail
                go_meet
                case rel =>
                  refine ⟨rfl, fun a => if a = p then true else F a, ?_, ?_, fun q hq => ?_, ?_⟩
                  · rw [arr_put true HAR.out (show p < 24 by omega)]
                    exact below_setRow HBJ.out (Nat.le_refl _) _
                  · rw [arr_put true HAR.out (show p < 24 by omega)]
                    exact setRow_heap _ _ _ _ _ _ HAR.out
                  · show (if q = p then true else F q) = (F q || (p == q && rB d p))
                    by_cases e : q = p
                    · rw [if_pos e, e, HFP.out]; rfl
                    · rw [if_neg e, beq_eq_false_iff_ne.2 (fun e2 => e e2.symm)]; simp
                  · rw [arr_put true HAR.out (show p < 24 by omega)]
                    exact HRD.out.set (Nat.lt_succ_self _) _
              | false =>
                rw [hfp] at c0
                have HFP := Lib.hid hfp
                have hr1 := HRP.out wr (HTO.out _ HBJ.out)
                obtain ⟨rb, hrb⟩ : ∃ rb, rB d p = rb := ⟨_, rfl⟩
                rw [hrb] at hr1
                have HR1 := Lib.hid hr1
                have HRB := Lib.hid hrb
                clear hfp hr1 hrb
                have xf : ∀ w', Below wr.heap.size wr w' → w'.cell? ⟨X, p, none⟩ = some (.bool false) ∧ w'.frozen? ⟨X, p, none⟩ = false := fun w' hw => by
                  have := arr_cell ((hw.block _ (row_lt HAR.out)).trans HAR.out) (show p < 24 by omega)
                  rw [HFP.out] at this
                  exact this
                have HXF := Lib.hid xf
                clear xf
                go_wp2_with (go_at_call 36; (with_reducible refine HR1.out.mono ?_); rintro e w5 ⟨rfl, hb5⟩; have B5 := Lib.hid (HBJ.out.trans (hb5.mono (Nat.le_of_lt (row_lt HAR.out)))); have HA5 := Lib.hid ((hb5.block _ (row_lt HAR.out)).trans HAR.out); have HRD5 := Lib.hid (HRD.out.below hb5); obtain ⟨x0, x1⟩ := HXF.out _ hb5; clear hb5 c0 f0)
                go_meet
                case rel =>
                  refine ⟨rfl, fun a => if a = p then rb else F a, ?_, ?_, fun q hq => ?_, ?_⟩
                  · rw [arr_put rb HA5.out (show p < 24 by omega)]
                    exact below_setRow B5.out (Nat.le_refl _) _
                  · rw [arr_put rb HA5.out (show p < 24 by omega)]
                    exact setRow_heap _ _ _ _ _ _ HA5.out
                  · show (if q = p then rb else F q) = (F q || (p == q && rB d p))
                    rw [HRB.out]
                    by_cases e : q = p
                    · rw [if_pos e, e, HFP.out]; simp
                    · rw [if_neg e, beq_eq_false_iff_ne.2 (fun e2 => e e2.symm)]; simp
                  · rw [arr_put rb HA5.out (show p < 24 by omega)]
                    exact HRD5.out.set (Nat.lt_succ_self _) _
            case rest =>
            obtain ⟨rfl, F1, hb1, ha1, hF1, hr1⟩ := hcut
            have HB1 := Lib.hid hb1
            have HA1 := Lib.hid ha1
            have HF1 := Lib.hid hF1
            have HR1 := Lib.hid hr1
            obtain ⟨k0', k1'⟩ := HGC.out _ (HTO.out _ hb1)
            have lX := row_lt ha1
            clear hb1 ha1 hF1 hr1 k0 k1 HBJ HAR HRD y0
            go_wp2_with fail
            refine (HMS1.out _ (HTO.out _ HB1.out)).mono ?_
            rintro e w6 ⟨Am, cm, rfl, hownm, hb6⟩
            have B6 := Lib.hid (HB1.out.trans (hb6.mono (Nat.le_of_lt lX)))
            have HA6 := Lib.hid ((hb6.block _ lX).trans HA1.out)
            have HR6 := Lib.hid (HR1.out.below hb6)
            have HM6 := Lib.hid ((row_of_own hownm).base (show X + 1 ≤ _ from lX))
            clear hownm hb6 k0' k1'
            go_wp2_with fail
            go_loopw [66] (fun ii wr => ∃ (i : Nat) (F2 : Nat → Bool), i ≤ nm ∧ ii = .int .i64 i ∧ Below X WB wr ∧ wr.heap[X]? = some (.cells (arr F2) 53 (0, 0)) ∧ (∀ q, q < d.k.length → F2 q = (F1 q || anyB (fun j => Lm.getD j 0 == q) i)) ∧ Row wr (X + 1) 1 (some ⟨bD, oD, none⟩) nD (iv LD) ∧ Row wr (X + 1) 1 Am nm (iv Lm)) (fun ii _ => nm - (intOf ii).toNat)
            case atStart => exact ⟨0, F1, by omega, rfl, B6.out, HA6.out, fun q hq => by simp [anyB], HR6.out, HM6.out⟩
            case round =>
              obtain ⟨i, F2, hi, rfl, hb2, ha2, hF2, hr2, hm2⟩ := hrel
              rename World => wm
              have HB2' := Lib.hid hb2
              have HA2 := Lib.hid ha2
              have HF2 := Lib.hid hF2
              have HR2 := Lib.hid hr2
              have HM2 := Lib.hid hm2
              clear B6 HA6 HR6 HM6
              by_cases hli : i < nm
              · obtain ⟨bm, om, hAm, -, -, y0⟩ := hm2.int hli
                subst hAm
                have hqn := HML.out i hli
                have hax : ∀ q, anyB (fun j => Lm.getD j 0 == q) (i + 1) = (anyB (fun j => Lm.getD j 0 == q) i || Lm.getD i 0 == q) := fun q => rfl
                generalize Lm.getD i 0 = u at *
                have HAX := Lib.hid hax
                obtain ⟨k0, k1⟩ := HGC.out _ (HTO.out _ hb2)
                obtain ⟨c0, f0⟩ := arr_cell ha2 (show u < 24 by omega)
                generalize hfu : F2 u = fu at *
                have r0 : (0 : Int) ≤ (i : Int) := by omega
                have r1 : (i : Int) < (nm : Int) := by omega
                have s0 : (0 : Int) ≤ (u : Int) := by omega
                have s1 : (u : Int) < (d.k.length : Int) := by omega
                have s2 : (u : Int) < 24 := by omega
                have t1 : decide ((u : Int) < 0) = false := decide_eq_false (by omega)
                have t2 : decide (d.k.length ≤ u) = false := decide_eq_false (by omega)
                clear hb2 ha2 hF2 hr2 hm2 hax hfu
                go_wp2_with fail
                rw [arr_put true HA2.out (show u < 24 by omega)]
                refine ⟨⟨i + 1, fun a => if a = u then true else F2 a, by omega, by go_num, below_setRow HB2'.out (Nat.le_refl _) _, setRow_heap _ _ _ _ _ _ HA2.out, fun q hq => ?_, HR2.out.set (Nat.lt_succ_self _) _, HM2.out.set (Nat.lt_succ_self _) _⟩, by simp [intOf]; omega⟩
                show (if q = u then true else F2 q) = _
                rw [HAX.out]
                by_cases e : q = u
                · rw [if_pos e, e]; simp
                · rw [if_neg e, HF2.out q hq, beq_eq_false_iff_ne.2 (fun e2 => e e2.symm)]; simp
              · obtain rfl : nm = i := by omega
                clear hb2 ha2 hF2 hr2 hm2
                go_wp2_with fail
                refine ⟨⟨j + 1, F2, by omega, by go_num, HB2'.out, HA2.out, fun q hq => ?_, HR2.out⟩, by simp [intOf]; omega⟩
                rw [HF2.out q hq, HF1.out q hq, HFM.out q hq, HF.out q hq, HWX.out q, Bool.or_assoc]
          · obtain rfl : nD = j := by omega
            obtain ⟨k0, k1⟩ := HGC.out _ (HTO.out _ hbl)
            have lX := row_lt har
            clear hbl har hF hrd
            go_wp2_with fail
            refine (HMG.out _ (HTO.out _ HBJ.out)).mono ?_
            rintro e w6 ⟨Am, cm, rfl, hownm, hb6⟩
            have B6 := Lib.hid (HBJ.out.trans (hb6.mono (Nat.le_of_lt lX)))
            have HA6 := Lib.hid ((hb6.block _ lX).trans HAR.out)
            have HM6 := Lib.hid ((row_of_own hownm).base (Nat.zero_le _))
            obtain ⟨q0, q1⟩ := HGC.out _ (HTO.out _ B6.out)
            have lX6 := row_lt HA6.out
            clear hownm hb6 k0 k1
            go_wp2_with fail
            clear q0 q1
            go_loopw [90] (fun ii wr => ∃ i : Nat, i ≤ d.k.length ∧ ii = .int .i64 i ∧ Below w6.heap.size w6 wr) (fun ii _ => d.k.length - (intOf ii).toNat)
            case atStart => exact ⟨0, by omega, rfl, Below.refl _ _⟩
            case round =>
              obtain ⟨i, hi, rfl, hbi⟩ := hrel
              rename World => wm
              have HBI := Lib.hid hbi
              by_cases hli : i < d.k.length
              · have hcell : ∀ w', Below wm.heap.size wm w' → w'.cell? ⟨X, i, none⟩ = some (.bool (F i)) ∧ Row w' 0 1 Am nM (iv LM) ∧ Below wm.heap.size wm w' := fun w' hw => by
                  have hh := hbi.trans (hw.mono hbi.size)
                  exact ⟨(arr_cell ((hh.block _ lX6).trans HA6.out) (show i < 24 by omega)).1, HM6.out.below hh, hw⟩
                have hhs := fun w' (hr : Row w' 0 1 Am nM (iv LM)) => has_any LM i Am nM cm w' hr (by omega)
                have hv : anyB (fun j => LM.getD j 0 == i) nM = F i := (HWN.out i hli).trans (HF.out i hli).symm
                simp only [hv] at hhs
                generalize F i = fi at *
                have HHS := Lib.hid hhs
                have HC := Lib.hid hcell
                have hbr : Below wm.heap.size wm wm := Below.refl _ _
                have hbd : Below wm.heap.size wm wm.drew := hbr.drew
                have efi : (fi != fi) = false := by simp
                have r0 : (0 : Int) ≤ (i : Int) := by omega
                have r1 : (i : Int) < (d.k.length : Int) := by omega
                have r2 : (i : Int) < 24 := by omega
                clear hcell hhs hv hbi
                go_wp2_with fail
                go_region_held3 (fun w' => w'.cell? ⟨X, i, none⟩ = some (.bool fi) ∧ Row w' 0 1 Am nM (iv LM) ∧ Below wm.heap.size wm w')
                  (first | (with_reducible assumption) | (with_reducible exact HC.out _ hbr) | (with_reducible exact HC.out _ hbd))
                  (first
                    | (go_at_call 34; (with_reducible refine (HHS.out _ ?_).mono ?_); (go_split_ands; with_reducible assumption); rintro e w2 ⟨rfl, rfl⟩))
                all_goals
                  go_wp2_with fail
                  go_split_ands
                  exact ⟨⟨i + 1, by omega, by go_num, HBI.out.trans (Below.mono (by with_reducible assumption) HBI.out.size)⟩, by simp [intOf]; omega⟩
              · obtain rfl : i = d.k.length := by omega
                go_wp2_with fail
                refine ⟨⟨k + 1, by omega, by go_num, ?_⟩, by simp [intOf]; omega⟩
                have h1 := B6.out.trans (HBI.out.mono (Nat.le_of_lt lX6))
                exact HB3K.out.trans (h1.mono hW3)
      · obtain rfl : k = n1 := by omega
        clear hbl
        go_wp2_with fail
        refine (awake_any _).mono ?_
        rintro e w9 ⟨rfl, hb9⟩
        have HB9 := Lib.hid (HB2.out.trans ((HBK.out.trans (hb9.mono HBK.out.size)).mono HB2.out.size))
        clear hb9
        go_wp2_with fail
        go_ret
        exact ⟨rfl, HB9.out⟩

/-! ### THE ROW's STEP: WRITTEN OUT: LEAVE IT -/
set_option maxRecDepth 100000 in
theorem lifted (os : Os) (started : os.Started) (H : Type) (enc : TypeId × Value → H) :
    ReturnsInHanded {} Try.checked os 7 .any (Rows.directoryUnionsSpec.pre6 enc Try.prog Try.f7 Rows.directoryUnionsRow.domain false) (Rows.directoryUnionsSpec.post enc Try.prog Try.f7 false true false false) := by
  refine returnsInHanded_of_change (C := Try.checked) own started (by kernel_rfl) Try.func7
    (ChangeSpec.witness6 (enc := enc) (C := Try.checked) false ⟨#[], #[.slice none 0 0], []⟩ 8 (by kernel_rfl) (by kernel_rfl) (by kernel_rfl) (by kernel_rfl)) ?_
  intro W base args ds gs before hval0 hW hcnd _
  have hval : ∀ (j : Nat) t v, Try.f7.params[j]? = some t → args[j]? = some v → Value.okWide Try.prog W .any base t v := hval0
  have hW' := hW
  obtain ⟨p, q, hA0, hV, rfl, hfz, hnd⟩ := hW
  have hA : DataW.TrodAll enc Try.prog W 0 (fun _ => true) true Try.f7.params.toList args.toList ds p := hA0
  rw [Try.params7] at hA hval
  obtain ⟨v0, vs0, d0, ds0, p0, q0, hargs, rfl, rfl, h0, r0⟩ := trodAll_cons hA
  obtain ⟨rfl, rfl, rfl⟩ := trodAll_nil r0
  obtain rfl : args = #[v0] := by cases args; simp_all
  obtain ⟨rfl, rfl⟩ := trodVars_none hV
  obtain ⟨a0, len0, cap0, rfl⟩ := okWide_slice Try.underlying22 (hval 0 22 v0 rfl rfl)
  have k0 := h0
  have lt0 : ∀ x ∈ p0, x.block < W.heap.size := by obtain ⟨m, hm⟩ := k0; exact DataW.trod_lt m _ _ _ hm
  obtain ⟨z0, w0⟩ : ∃ zs, IsRow .i64 W a0 len0 cap0 zs := by
    obtain ⟨fuel, hf⟩ := h0
    rcases open_ints Try.underlying22 Try.underlying3 (by kernel_rfl) hf with ⟨hcs, _⟩ | ⟨x, l, c, zs, hcs, _, hl, hm, hz, _, hcell, hwz⟩
    · simp [Value.cells] at hcs
      obtain ⟨rfl, rfl, rfl⟩ := hcs
      exact ⟨[], .inl ⟨rfl, rfl, rfl, rfl⟩⟩
    · simp [Value.cells] at hcs
      obtain ⟨rfl, rfl, rfl⟩ := hcs
      exact ⟨zs, .inr ⟨_, rfl, hl, hm, by simpa using hz, hcell, hwz⟩⟩
  clear hA0 hval0
  refine (walk a0 len0 cap0 z0 W w0).mono fun e W' ⟨he, bel⟩ => ?_
  subst he
  exact ⟨_, rfl, _, _, _, [], _, [], hW', trodAll_mk1 (shut_bool Try.underlying4 _), (trodAll_cons_mk (Below.trod laidOut (by kernel_rfl) (of_decide_eq_true (by kernel_rfl)) k0 bel lt0) trodAll_mk0), rfl, bel.frame _, fun h => by cases h⟩

theorem over : Rows.directoryUnionsRow.holds Try.pinned (OpenSpec.ofChange Rows.directoryUnionsSpec) :=
  OpenClaim.holds_of_wide 7 Try.f7 rfl rfl rfl rfl rfl rfl rfl ⟨rfl, rfl, rfl, rfl, rfl⟩ rfl rfl rfl rfl rfl (by kernel_rfl) Try.func7 (by kernel_rfl)
    (of_decide_eq_true (by kernel_rfl)) (by unfold Func.isWrapper; first | (rw [if_pos (by decide +kernel)]; kernel_rfl) | (rw [if_neg (by decide +kernel)]; exact ⟨rfl, rfl⟩))
    (fun os started H enc _ => lifted os started H enc)

/-- ████ THE STATEMENT ████ -/
theorem proved : Rows.DirectoryUnionsSaid := over
#print axioms proved
end Go.Proofs.Ytdhofngildjifaa.directoryUnions
