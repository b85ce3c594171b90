/-
  The Go function leakresponse/leakresponselaw24.RegistryRevokes returns true for every list of numbers, and leaves what was there as it was; no conditions.
-/
import Derived.Test.YtablgpcgfogfoaaRgP
import Derived.Test.YtablgpcgfogfoaaRows
import Derived.WalkKit
import Derived.ProofKit
import Derived.OpenShut
import Derived.ShutString
import Derived.ChangeOld
import Derived.Below
import Derived.BigQuiet
namespace Go.Proofs.Ytablgpcgfogfoaa.registryRevokes
open Go.ChangeShapes Go.WideShapes Go.ChangeAt Go.RowKit
open Go.ChangeMaps (open_string shut_string)
open Go.Proofs.Ytablgpcgfogfoaa.Tp
open Go.Proofs.Ytablgpcgfogfoaa.Rg
set_option linter.unusedVariables false

theorem val_cut (x : Cr) (t s : Nat) : val (cut x t) s = (decide (s < t) && val x s) := by
  unfold val cut
  rw [Bool.eq_iff_iff]
  simp
  omega
theorem rev_same {r : Rg} {k t i s : Nat} (hk : k < r.c.length) (h : i ≠ k) : val (cg (rev r k t) i) s = val (cg r i) s := by rw [cg_rev hk, if_neg h]
theorem rev_at {r : Rg} {k t s : Nat} (hk : k < r.c.length) : val (cg (rev r k t) k) s = (decide (s < t) && val (cg r k) s) := by rw [cg_rev hk, if_pos rfl, val_cut]

set_option maxRecDepth 100000 in
set_option maxHeartbeats 4000000 in
theorem walk (a0 : Option Addr) (len0 cap0 : Nat) (z0 : List Int) (w : World) (w0 : IsRow .i64 w a0 len0 cap0 z0) :
    Calls Try.prog 6 #[.slice a0 len0 cap0] w fun e w' => e = .returned (.bool true) ∧ Below w.heap.size w w' := by
  have hm := w0.at_.1
  unfold maxLen at hm
  have HTP := Lib.hid (tape_new w0)
  have HBX := Lib.hid (box_below w (.cells #[.slice a0 len0 cap0, .int .i64 0] 33))
  clear w0
  by_cases hlen : 300 < len0
  · have hl0 : (300 : Int) < (len0 : Int) := by omega
    go_enter Try.func6, Try.ntmps6
    go_wp2_with (go_at_call 9; refine (awake_any _).mono ?_; rintro e w1 ⟨rfl, hb1⟩; have HB1 := Lib.hid hb1; clear hb1)
    go_ret
    exact ⟨rfl, HB1.out⟩
  · have hl0 : (len0 : Int) ≤ (300 : Int) := by omega
    go_enter Try.func6, Try.ntmps6
    go_wp2_with fail
    refine (registry_any w.heap.size _ HTP.out (by simp)).mono ?_
    rintro e w1 ⟨r, v, rfl, hwf, hcr, hi1, hi2, hc7, hrl, hg1, ht1⟩
    have hb1 : Below w.heap.size w w1 := HBX.out.grown hg1 HBX.out.size (fun k e => by cases e; exact Nat.le_refl _)
    have hs1 := hg1.size
    simp at hs1
    have HQ := Lib.hid (heap_alloc_new w1 (.cells (gv r v) 26))
    have HGD := Lib.hid (show Gd (w1.alloc (.cells (gv r v) 26)) (w.heap.size + 1) nmI r v from ⟨(hrl.base (show w.heap.size + 1 ≤ _ by simp)).below (box_below w1 (.cells (gv r v) 26)), nm_I, hwf, hcr⟩)
    have HB1 := Lib.hid (hb1.trans ((box_below w1 (.cells (gv r v) 26)).mono hb1.size))
    have HT1 := Lib.hid (tape_new2 ht1 (.cells (gv r v) 26))
    have HWF := Lib.hid hwf
    have HCR := Lib.hid hcr
    clear hrl hg1 ht1 hb1 hwf hcr
    have lQ : w1.heap.size < (w1.alloc (.cells (gv r v) 26)).heap.size := row_lt HQ.out
    by_cases hc0 : r.c.length = 0
    · have z0 : ((r.c.length : Int) == 0) = true := by simp [hc0]
      obtain ⟨g0, g1⟩ := gvCells HQ.out
      go_wp2_with (first | (with_reducible (show wpList _ _ _ (⟨none, .store 26 (.tmp 4) (.tmp 19), _, _, _, _⟩ :: _) _ _); refine wpList_store_row (o := ⟨none, .store 26 (.tmp 4) (.tmp 19), _, _, _, _⟩) rfl 26 (.tmp 4) (.tmp 19) rfl w1.heap.size (gv r v) rfl rfl 26 zG (heap_alloc_new _ _) (info26 _ _) rfl (gv_one _ _) ?_; rw [new_set]; generalize w1.heap.size = Q at *; generalize w1.alloc (.cells (gv r v) 26) = W1 at *) | (go_at_call 9; refine (awake_any _).mono ?_; rintro e w9 ⟨rfl, hb9⟩; have HB9 := Lib.hid hb9; clear hb9))
      go_ret
      exact ⟨rfl, HB1.out.trans (HB9.out.mono HB1.out.size)⟩
    · have z0 : ((r.c.length : Int) == 0) = false := beq_eq_false_iff_ne.2 (by omega)
      obtain ⟨g0, g1⟩ := gvCells HQ.out
      go_wp2_with (with_reducible (show wpList _ _ _ (⟨none, .store 26 (.tmp 4) (.tmp 19), _, _, _, _⟩ :: _) _ _); refine wpList_store_row (o := ⟨none, .store 26 (.tmp 4) (.tmp 19), _, _, _, _⟩) rfl 26 (.tmp 4) (.tmp 19) rfl w1.heap.size (gv r v) rfl rfl 26 zG (heap_alloc_new _ _) (info26 _ _) rfl (gv_one _ _) ?_; rw [new_set]; generalize w1.heap.size = Q at *; generalize w1.alloc (.cells (gv r v) 26) = W1 at *)
      have hTr : w.heap.size < W1.heap.size := by omega
      refine (next_any w.heap.size (r.c.length : Int) _ HT1.out (by omega) (by omega)).mono ?_
      rintro e w2 ⟨zk, a1, b1, rfl, hg2, ht2⟩
      obtain ⟨k, rfl⟩ : ∃ z : Nat, zk = z := ⟨zk.toNat, by omega⟩
      have hk : k < r.c.length := by omega
      have Q2 := Lib.hid ((hg2.block Q lQ (by simp; omega)).trans HQ.out)
      have HG2 := Lib.hid (show Gd w2 (w.heap.size + 1) nmI r v from ⟨HGD.out.l.grown (row := some w.heap.size) hg2 (fun g e => by cases e; omega), nm_I, HWF.out, HCR.out⟩)
      have HB2 := Lib.hid (HB1.out.grown hg2 HB1.out.size (fun k e => by cases e; exact Nat.le_refl _))
      have HT2 := Lib.hid ht2
      clear hg2 ht2 g0 g1
      have hcw := HWF.out.c k hk
      have hfu := hcw.f
      have hu := hcw.u
      clear hcw
      have hk0 : (0 : Int) ≤ (k : Int) := by omega
      obtain ⟨b, off, hA, hBb, hbk, y0, y1, y2, y3, y4⟩ := HG2.out.l.r2.crd hk
      have HAA := Lib.hid hA
      clear y0 y1 y2 y3 y4
      have hkk : ∀ w', w2.grownBy w' (some w.heap.size) → TapeOk w' w.heap.size → (w'.cell? ⟨Q, 1, none⟩ = some (.slice (some ⟨b, off, none⟩) r.c.length v.c2) ∧ w'.cell? ⟨b, off + k * 5 + 3, none⟩ = some (.int .i64 (((cg r k).f : Nat) : Int)) ∧ w2.grownBy w' (some w.heap.size) ∧ TapeOk w' w.heap.size) := fun w' hg ht => by
        obtain ⟨k0, k1⟩ := gvCells ((hg.block Q (row_lt Q2.out) (by simp; omega)).trans Q2.out)
        rw [HAA.out] at k1
        obtain ⟨b', off', hA', -, -, -, -, -, y3, -⟩ := (HG2.out.l.grown (row := some w.heap.size) hg (fun g e => by cases e; omega)).r2.crd hk
        rw [HAA.out] at hA'
        cases hA'
        exact ⟨k1, y3, hg, ht⟩
      have HK := Lib.hid hkk
      have HNX := Lib.hid (fun w' (ht : TapeOk w' w.heap.size) => next_any w.heap.size 14 w' ht (by omega) (by omega))
      have gd0 : w2.grownBy w2 (some w.heap.size) := gb_row (gb_of_below (Below.refl _ w2))
      have td0 : TapeOk w2 w.heap.size := HT2.out
      have gd : w2.grownBy w2.drew (some w.heap.size) := gb_drewN w2 1 _
      have td : TapeOk w2.drew w.heap.size := HT2.out
      clear hkk hA
      have hf0 : (cg r k).f ≤ 1000 := by omega
      generalize hff : (cg r k).f = f at *
      have HFF := Lib.hid hff
      clear hff
      have hw1 : IntKind.i64.wrap ((f : Int) + 1) = (f : Int) + 1 := IntWalk.i64_in _ (by omega)
      go_wp2_with fail
      go_region_held3 (fun w' => w'.cell? ⟨Q, 1, none⟩ = some (.slice (some ⟨b, off, none⟩) r.c.length v.c2) ∧ w'.cell? ⟨b, off + k * 5 + 3, none⟩ = some (.int .i64 (f : Int)) ∧ w2.grownBy w' (some w.heap.size) ∧ TapeOk w' w.heap.size)
        (first | (with_reducible assumption) | (with_reducible exact HK.out _ gd0 td0) | (with_reducible exact HK.out _ gd td) | (with_reducible exact HK.out _ gn tn))
        (first
          | (go_at_call 12; (with_reducible refine (HNX.out _ ?_).mono ?_); (go_split_ands; with_reducible assumption); rintro e wn ⟨zn, a2, b2, rfl, hgn, htn⟩; obtain ⟨n, rfl⟩ : ∃ z : Nat, zn = z := ⟨zn.toNat, by omega⟩; go_split_ands; have gn : w2.grownBy wn (some w.heap.size) := gb_trans (by with_reducible assumption) hgn; have tn := htn; have hw3 : IntKind.i64.wrap ((f : Int) + 1 + (n : Int)) = (f : Int) + 1 + (n : Int) := IntWalk.i64_in _ (by omega); clear hgn htn))
      all_goals
        obtain ⟨t, ht⟩ : ∃ t : Nat, f + 1 + n = t := ⟨_, rfl⟩
        have hte : (f : Int) + 1 + (n : Int) = (t : Int) := by omega
        rw [hte]
        have htf : f < t := by omega
        have ht2 : t ≤ 1020 := by omega
        have Qn := Lib.hid ((gn.block Q (row_lt Q2.out) (by simp; omega)).trans Q2.out)
        have HGn := Lib.hid (show Gd wn (w.heap.size + 1) nmI r v from ⟨HG2.out.l.grown (row := some w.heap.size) gn (fun g e => by cases e; omega), nm_I, HWF.out, HCR.out⟩)
        have HBn := Lib.hid (HB2.out.grown gn HB2.out.size (fun k e => by cases e; exact Nat.le_refl _))
        have hrv := revoke_any (w.heap.size + 1) nmI r v k t wn HGn.out hk (by rw [HFF.out]; exact htf)
        simp only [gv] at hrv
        have HRV := Lib.hid hrv
        go_split_ands
        clear hrv hte hw3 hw1 gn tn gd td gd0 td0 ht a2 b2
        rename_i hgarb1 hgarb2 hgarb3 hgarb4
        clear hgarb1 hgarb2 hgarb3 hgarb4
        obtain ⟨g0, g1⟩ := gvCells Qn.out
        go_wp2_with (first
          | (go_at_call 27; (with_reducible refine HRV.out.mono ?_); rintro e w5 ⟨u, rfl, h2, h3⟩)
          | (with_reducible (show wpList _ _ _ (⟨none, .store 26 (.tmp 7) (.tmp 45), _, _, _, _⟩ :: _) _ _); refine wpList_store_row (o := ⟨none, .store 26 (.tmp 7) (.tmp 45), _, _, _, _⟩) rfl 26 (.tmp 7) (.tmp 45) rfl w5.heap.size (gv (rev r k t) u) rfl rfl 26 zG (heap_alloc_new _ _) (info26 _ _) rfl (gv_one _ _) ?_; rw [new_set];
             have hb6 : Below wn.heap.size wn (w5.alloc (.cells (gv (rev r k t) u) 26)) := h3.trans ((box_below w5 (.cells (gv (rev r k t) u) 26)).mono h3.size);
             have HG6 := Lib.hid (show Gd (w5.alloc (.cells (gv (rev r k t) u) 26)) 0 nmI (rev r k t) u from ⟨(h2.below (box_below w5 (.cells (gv (rev r k t) u) 26))).base (Nat.zero_le _), nm_I, Wf.rev HWF.out hk (by rw [HFF.out]; exact htf), rev_crowd HCR.out hk⟩);
             have HN := Lib.hid (heap_alloc_new w5 (.cells (gv (rev r k t) u) 26));
             have Q6 := Lib.hid ((hb6.block Q (row_lt Qn.out)).trans Qn.out);
             have HB6 := Lib.hid (HBn.out.trans (hb6.mono HBn.out.size));
             have HR6 := Lib.hid (HGn.out.below hb6);
             clear h2 h3 hb6 g0 g1;
             generalize w5.heap.size = N at *; generalize w5.alloc (.cells (gv (rev r k t) u) 26) = W6 at *;
             obtain ⟨u0, u1⟩ := gvCells HN.out;
             have HCK2 := Lib.hid (check_ok HG6.out))
          | (go_at_call 14; (with_reducible refine HCK2.out.mono ?_); rintro e w7 ⟨rfl, hb7⟩; have HB7 := Lib.hid hb7; clear hb7))
        clear u0 u1
        go_loopw [9] (fun ss wr => ∃ s : Nat, s ≤ 40 ∧ ss = .int .i64 s ∧ Below W6.heap.size W6 wr) (fun ss _ => 40 - (intOf ss).toNat)
        case atStart => exact ⟨0, by omega, rfl, HB7.out⟩
        case round =>
          rename World => WR
          obtain ⟨s, hs, rfl, hbl⟩ := hrel
          have HBL := Lib.hid hbl
          have QK := Lib.hid ((hbl.block Q (row_lt Q6.out)).trans Q6.out)
          have NK := Lib.hid ((hbl.block N (row_lt HN.out)).trans HN.out)
          have HSK := Lib.hid (HG6.out.below hbl)
          have HRK := Lib.hid (HR6.out.below hbl)
          clear hbl
          by_cases hlt : s < 40
          · have s3 : (s : Int) < 40 := by omega
            have hv2 := valid_any 0 nmI (rev r k t) u k s WR HSK.out (by rw [rev_len]; exact hk)
            rw [rev_at hk] at hv2
            have hv1 := fun w' (hw : Below WR.heap.size WR w') => valid_any (w.heap.size + 1) nmI r v k s w' (HRK.out.below hw) hk
            have hcl : (rev r k t).c.length = r.c.length := rev_len r k t
            have hk9 : ∀ w', Below WR.heap.size WR w' → ((w'.cell? ⟨N, 0, none⟩ = some (.slice u.A1 (rev r k t).s.length u.c1) ∧ w'.cell? ⟨N, 1, none⟩ = some (.slice u.A2 (rev r k t).c.length u.c2)) ∧ (w'.cell? ⟨Q, 0, none⟩ = some (.slice v.A1 r.s.length v.c1) ∧ w'.cell? ⟨Q, 1, none⟩ = some (.slice v.A2 r.c.length v.c2))) := fun w' hw => ⟨gvCells ((hw.block N (row_lt NK.out)).trans NK.out), gvCells ((hw.block Q (row_lt QK.out)).trans QK.out)⟩
            have HK9 := Lib.hid hk9
            obtain ⟨⟨u0, u1⟩, q0, q1⟩ := hk9 WR (Below.refl _ _)
            clear hk9 hcl
            generalize hvv : val (cg r k) s = vr at *
            have HVV := Lib.hid hvv
            clear hvv
            simp only [gv] at hv2 hv1
            have HV1 := Lib.hid hv1
            clear hv1
            have hcont : ∃ HX : Prop, HX = True := ⟨_, rfl⟩
            by_cases hst : s < t
            · have hst2 : (s : Int) < (t : Int) := by omega
              rw [decide_eq_true hst, Bool.true_and] at hv2
              have HV2 := Lib.hid hv2
              clear hv2
              go_wp2_with (first
                | (go_at_call 18; (with_reducible refine HV2.out.mono ?_); rintro e wa ⟨rfl, hba⟩; have HBa := Lib.hid hba; clear hba u0 u1 q0 q1; obtain ⟨⟨u0, u1⟩, q0, q1⟩ := HK9.out _ HBa.out)
                | (go_at_call 18; (with_reducible refine (HV1.out _ HBa.out).mono ?_); rintro e wb ⟨rfl, hbb⟩; have HBb := Lib.hid (HBa.out.trans (hbb.mono HBa.out.size)); clear hbb u0 u1 q0 q1; obtain ⟨⟨u0, u1⟩, q0, q1⟩ := HK9.out _ HBb.out))
              clear u0 u1 q0 q1
              go_loopw [75] (fun ii wi => ∃ i : Nat, i ≤ r.c.length ∧ ii = .int .i64 i ∧ Below WR.heap.size WR wi) (fun ii _ => r.c.length - (intOf ii).toNat)
              case atStart => exact ⟨0, by omega, rfl, HBb.out⟩
              case round =>
                obtain ⟨i, hi, rfl, hbj⟩ := hrel
                have HBJ := Lib.hid hbj
                have HBI := Lib.hid hbj
                clear hbj
                by_cases hli : i < r.c.length
                · have i1 : (i : Int) < (r.c.length : Int) := by omega
                  by_cases hik : i = k
                  · have e1 : ((i : Int) == (k : Int)) = true := by rw [hik]; simp
                    go_wp2_with fail
                    go_quiet (fail)
                    clear e1 hik
                    go_wp2_with fail
                    have hbj := HBJ.out
                    exact ⟨⟨i + 1, by omega, by go_num, ⟨hbj.os, hbj.tape, hbj.output, hbj.size, hbj.block⟩⟩, by simp [intOf]; omega⟩
                  · have e0 : ((i : Int) == (k : Int)) = false := beq_eq_false_iff_ne.2 (by omega)
                    have e1 : ((i : Int) != (k : Int)) = true := by rw [bne, e0]; rfl
                    clear e0
                    have hvs := fun w' (hw : Below WR.heap.size WR w') => valid_any 0 nmI (rev r k t) u i s w' (HSK.out.below hw) (by rw [rev_len]; exact hli)
                    rw [rev_same hk hik] at hvs
                    have hvr := fun w' (hw : Below WR.heap.size WR w') => valid_any (w.heap.size + 1) nmI r v i s w' (HRK.out.below hw) hli
                    generalize val (cg r i) s = vi at *
                    simp only [gv] at hvs hvr
                    have HVS := Lib.hid hvs
                    have HVR := Lib.hid hvr
                    clear hvs hvr
                    have hk5 : ∀ w', Below WR.heap.size WR w' → (w'.cell? ⟨N, 0, none⟩ = some (.slice u.A1 (rev r k t).s.length u.c1) ∧ w'.cell? ⟨N, 1, none⟩ = some (.slice u.A2 (rev r k t).c.length u.c2) ∧ w'.cell? ⟨Q, 0, none⟩ = some (.slice v.A1 r.s.length v.c1) ∧ w'.cell? ⟨Q, 1, none⟩ = some (.slice v.A2 r.c.length v.c2) ∧ Below WR.heap.size WR w') := fun w' hw => by
                      obtain ⟨⟨k0, k1⟩, k2, k3⟩ := HK9.out w' hw
                      exact ⟨k0, k1, k2, k3, hw⟩
                    have HK5 := Lib.hid hk5
                    have hbr : Below WR.heap.size WR wr := HBI.out
                    have hbd : Below WR.heap.size WR wr.drew := HBI.out.drew
                    clear hk5 hik
                    go_wp2_with fail
                    go_region_held3 (fun w' => w'.cell? ⟨N, 0, none⟩ = some (.slice u.A1 (rev r k t).s.length u.c1) ∧ w'.cell? ⟨N, 1, none⟩ = some (.slice u.A2 (rev r k t).c.length u.c2) ∧ w'.cell? ⟨Q, 0, none⟩ = some (.slice v.A1 r.s.length v.c1) ∧ w'.cell? ⟨Q, 1, none⟩ = some (.slice v.A2 r.c.length v.c2) ∧ Below WR.heap.size WR w')
                      (first | (with_reducible assumption) | (with_reducible exact HK5.out _ hbr) | (with_reducible exact HK5.out _ hbd) | (go_split_ands; exact HK5.out _ (Below.trans (by with_reducible assumption) (hb2.mono (Below.size (by with_reducible assumption))))))
                      (first
                        | (go_at_call 18; (with_reducible refine (HVS.out _ ?_).mono ?_); (go_split_ands; with_reducible assumption); rintro e w2' ⟨rfl, hb2⟩)
                        | (go_at_call 18; (with_reducible refine (HVR.out _ ?_).mono ?_); (go_split_ands; with_reducible assumption); rintro e w2' ⟨rfl, hb2⟩))
                    all_goals
                      go_wp2_with fail
                      go_split_ands
                      rename_i hf1
                      exact ⟨⟨i + 1, by omega, by go_num, hf1⟩, by simp [intOf]; omega⟩
                · obtain rfl : i = r.c.length := by omega
                  go_wp2_with fail
                  exact ⟨⟨s + 1, by omega, by go_num, HBL.out.trans (HBI.out.mono HBL.out.size)⟩, by simp [intOf]; omega⟩
            · have hst2 : ¬ (s : Int) < (t : Int) := by omega
              rw [decide_eq_false hst, Bool.false_and] at hv2
              have HV2 := Lib.hid hv2
              clear hv2
              go_wp2_with (go_at_call 18; (with_reducible refine HV2.out.mono ?_); rintro e wb ⟨rfl, hbb⟩; have HBb := Lib.hid hbb; clear hbb u0 u1 q0 q1; obtain ⟨⟨u0, u1⟩, q0, q1⟩ := HK9.out _ HBb.out)
              clear u0 u1 q0 q1
              go_loopw [75] (fun ii wi => ∃ i : Nat, i ≤ r.c.length ∧ ii = .int .i64 i ∧ Below WR.heap.size WR wi) (fun ii _ => r.c.length - (intOf ii).toNat)
              case atStart => exact ⟨0, by omega, rfl, HBb.out⟩
              case round =>
                obtain ⟨i, hi, rfl, hbj⟩ := hrel
                have HBJ := Lib.hid hbj
                have HBI := Lib.hid hbj
                clear hbj
                by_cases hli : i < r.c.length
                · have i1 : (i : Int) < (r.c.length : Int) := by omega
                  by_cases hik : i = k
                  · have e1 : ((i : Int) == (k : Int)) = true := by rw [hik]; simp
                    go_wp2_with fail
                    go_quiet (fail)
                    clear e1 hik
                    go_wp2_with fail
                    have hbj := HBJ.out
                    exact ⟨⟨i + 1, by omega, by go_num, ⟨hbj.os, hbj.tape, hbj.output, hbj.size, hbj.block⟩⟩, by simp [intOf]; omega⟩
                  · have e0 : ((i : Int) == (k : Int)) = false := beq_eq_false_iff_ne.2 (by omega)
                    have e1 : ((i : Int) != (k : Int)) = true := by rw [bne, e0]; rfl
                    clear e0
                    have hvs := fun w' (hw : Below WR.heap.size WR w') => valid_any 0 nmI (rev r k t) u i s w' (HSK.out.below hw) (by rw [rev_len]; exact hli)
                    rw [rev_same hk hik] at hvs
                    have hvr := fun w' (hw : Below WR.heap.size WR w') => valid_any (w.heap.size + 1) nmI r v i s w' (HRK.out.below hw) hli
                    generalize val (cg r i) s = vi at *
                    simp only [gv] at hvs hvr
                    have HVS := Lib.hid hvs
                    have HVR := Lib.hid hvr
                    clear hvs hvr
                    have hk5 : ∀ w', Below WR.heap.size WR w' → (w'.cell? ⟨N, 0, none⟩ = some (.slice u.A1 (rev r k t).s.length u.c1) ∧ w'.cell? ⟨N, 1, none⟩ = some (.slice u.A2 (rev r k t).c.length u.c2) ∧ w'.cell? ⟨Q, 0, none⟩ = some (.slice v.A1 r.s.length v.c1) ∧ w'.cell? ⟨Q, 1, none⟩ = some (.slice v.A2 r.c.length v.c2) ∧ Below WR.heap.size WR w') := fun w' hw => by
                      obtain ⟨⟨k0, k1⟩, k2, k3⟩ := HK9.out w' hw
                      exact ⟨k0, k1, k2, k3, hw⟩
                    have HK5 := Lib.hid hk5
                    have hbr : Below WR.heap.size WR wr := HBI.out
                    have hbd : Below WR.heap.size WR wr.drew := HBI.out.drew
                    clear hk5 hik
                    go_wp2_with fail
                    go_region_held3 (fun w' => w'.cell? ⟨N, 0, none⟩ = some (.slice u.A1 (rev r k t).s.length u.c1) ∧ w'.cell? ⟨N, 1, none⟩ = some (.slice u.A2 (rev r k t).c.length u.c2) ∧ w'.cell? ⟨Q, 0, none⟩ = some (.slice v.A1 r.s.length v.c1) ∧ w'.cell? ⟨Q, 1, none⟩ = some (.slice v.A2 r.c.length v.c2) ∧ Below WR.heap.size WR w')
                      (first | (with_reducible assumption) | (with_reducible exact HK5.out _ hbr) | (with_reducible exact HK5.out _ hbd) | (go_split_ands; exact HK5.out _ (Below.trans (by with_reducible assumption) (hb2.mono (Below.size (by with_reducible assumption))))))
                      (first
                        | (go_at_call 18; (with_reducible refine (HVS.out _ ?_).mono ?_); (go_split_ands; with_reducible assumption); rintro e w2' ⟨rfl, hb2⟩)
                        | (go_at_call 18; (with_reducible refine (HVR.out _ ?_).mono ?_); (go_split_ands; with_reducible assumption); rintro e w2' ⟨rfl, hb2⟩))
                    all_goals
                      go_wp2_with fail
                      go_split_ands
                      rename_i hf1
                      exact ⟨⟨i + 1, by omega, by go_num, hf1⟩, by simp [intOf]; omega⟩
                · obtain rfl : i = r.c.length := by omega
                  go_wp2_with fail
                  exact ⟨⟨s + 1, by omega, by go_num, HBL.out.trans (HBI.out.mono HBL.out.size)⟩, by simp [intOf]; omega⟩
          · obtain rfl : s = 40 := by omega
            go_wp2_with (go_at_call 9; refine (awake_any _).mono ?_; rintro e w9 ⟨rfl, hb9⟩; have HB9 := Lib.hid hb9; clear hb9)
            go_ret
            exact ⟨rfl, (HB6.out.trans (HBL.out.mono HB6.out.size)).trans (HB9.out.mono (HB6.out.trans (HBL.out.mono HB6.out.size)).size)⟩

/-! ### THE ROW's STEP: WRITTEN OUT: LEAVE IT -/
set_option maxRecDepth 100000 in
theorem lifted (os : Os) (started : os.Started) (H : Type) (enc : TypeId × Value → H) :
    ReturnsInHanded {} Try.checked os 6 .any (Rows.registryRevokesSpec.pre6 enc Try.prog Try.f6 Rows.registryRevokesRow.domain false) (Rows.registryRevokesSpec.post enc Try.prog Try.f6 false true false false) := by
  refine returnsInHanded_of_change (C := Try.checked) own started (by kernel_rfl) Try.func6
    (ChangeSpec.witness6 (enc := enc) (C := Try.checked) false ⟨#[], #[.slice none 0 0], []⟩ 8 (by kernel_rfl) (by kernel_rfl) (by kernel_rfl) (by kernel_rfl)) ?_
  intro W base args ds gs before hval0 hW hcnd _
  have hval : ∀ (j : Nat) t v, Try.f6.params[j]? = some t → args[j]? = some v → Value.okWide Try.prog W .any base t v := hval0
  have hW' := hW
  obtain ⟨p, q, hA0, hV, rfl, hfz, hnd⟩ := hW
  have hA : DataW.TrodAll enc Try.prog W 0 (fun _ => true) true Try.f6.params.toList args.toList ds p := hA0
  rw [Try.params6] at hA hval
  obtain ⟨v0, vs0, d0, ds0, p0, q0, hargs, rfl, rfl, h0, r0⟩ := trodAll_cons hA
  obtain ⟨rfl, rfl, rfl⟩ := trodAll_nil r0
  obtain rfl : args = #[v0] := by cases args; simp_all
  obtain ⟨rfl, rfl⟩ := trodVars_none hV
  obtain ⟨a0, len0, cap0, rfl⟩ := okWide_slice Try.underlying22 (hval 0 22 v0 rfl rfl)
  have k0 := h0
  have lt0 : ∀ x ∈ p0, x.block < W.heap.size := by obtain ⟨m, hm⟩ := k0; exact DataW.trod_lt m _ _ _ hm
  obtain ⟨z0, w0⟩ : ∃ zs, IsRow .i64 W a0 len0 cap0 zs := by
    obtain ⟨fuel, hf⟩ := h0
    rcases open_ints Try.underlying22 Try.underlying3 (by kernel_rfl) hf with ⟨hcs, _⟩ | ⟨x, l, c, zs, hcs, _, hl, hm, hz, _, hcell, hwz⟩
    · simp [Value.cells] at hcs
      obtain ⟨rfl, rfl, rfl⟩ := hcs
      exact ⟨[], .inl ⟨rfl, rfl, rfl, rfl⟩⟩
    · simp [Value.cells] at hcs
      obtain ⟨rfl, rfl, rfl⟩ := hcs
      exact ⟨zs, .inr ⟨_, rfl, hl, hm, by simpa using hz, hcell, hwz⟩⟩
  clear hA0 hval0
  refine (walk a0 len0 cap0 z0 W w0).mono fun e W' ⟨he, bel⟩ => ?_
  subst he
  exact ⟨_, rfl, _, _, _, [], _, [], hW', trodAll_mk1 (shut_bool Try.underlying4 _), (trodAll_cons_mk (Below.trod laidOut (by kernel_rfl) (of_decide_eq_true (by kernel_rfl)) k0 bel lt0) trodAll_mk0), rfl, bel.frame _, fun h => by cases h⟩

theorem over : Rows.registryRevokesRow.holds Try.pinned (OpenSpec.ofChange Rows.registryRevokesSpec) :=
  OpenClaim.holds_of_wide 6 Try.f6 rfl rfl rfl rfl rfl rfl rfl ⟨rfl, rfl, rfl, rfl, rfl⟩ rfl rfl rfl rfl rfl (by kernel_rfl) Try.func6 (by kernel_rfl)
    (of_decide_eq_true (by kernel_rfl)) (by unfold Func.isWrapper; first | (rw [if_pos (by decide +kernel)]; kernel_rfl) | (rw [if_neg (by decide +kernel)]; exact ⟨rfl, rfl⟩))
    (fun os started H enc _ => lifted os started H enc)

/-- ████ THE STATEMENT ████ -/
theorem proved : Rows.RegistryRevokesSaid := over
#print axioms proved
end Go.Proofs.Ytablgpcgfogfoaa.registryRevokes
