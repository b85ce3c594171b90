/-
  The Go function leakresponse/leakresponselaw23.DirectoryKinds returns true for every list of numbers, and leaves what was there as it was; no conditions. Only persons and services are members, and only groups are what something is in.
-/
import Derived.Test.YtdhofngildjifaaDjF
import Derived.Test.YtdhofngildjifaaRows
import Derived.WalkKit
import Derived.ProofKit
import Derived.OpenShut
import Derived.ShutString
import Derived.ChangeOld
import Derived.Below
namespace Go.Proofs.Ytdhofngildjifaa.directoryKinds
open Go.ChangeShapes Go.WideShapes Go.ChangeAt Go.RowKit
open Go.ChangeMaps (open_string shut_string)
open Go.Proofs.Ytdhofngildjifaa.Tp
open Go.Proofs.Ytdhofngildjifaa.Di
set_option linter.unusedVariables false

theorem of_grp {d : Dy} {t p : Nat} (hok : Ok d) {j : Nat} (hj : j < cnt (grpB d t p) d.k.length) : gB d ((idx (grpB d t p) d.k.length).getD j 0) = true ∧ (idx (grpB d t p) d.k.length).getD j 0 ≠ p := by
  rw [← idx_len] at hj
  have hm : (idx (grpB d t p) d.k.length).getD j 0 ∈ idx (grpB d t p) d.k.length := by
    rw [List.getD_eq_getElem?_getD, List.getElem?_eq_getElem hj]
    exact List.getElem_mem hj
  obtain ⟨h1, h2⟩ := (idx_mem _ _ _).1 hm
  unfold grpB at h2
  rw [Bool.and_eq_true, upB_iff] at h2
  have hne : (idx (grpB d t p) d.k.length).getD j 0 ≠ p := bne_iff_ne.1 h2.2
  rcases rc_group hok h2.1.2 with e | e
  · exact absurd e hne
  · exact ⟨(gB_iff _ _).2 e, hne⟩
theorem of_mem {d : Dy} {t p : Nat} {j : Nat} (hj : j < cnt (memB d t p) d.k.length) : rB d ((idx (memB d t p) d.k.length).getD j 0) = true ∧ inB d t ((idx (memB d t p) d.k.length).getD j 0) p = true := by
  rw [← idx_len] at hj
  have hm : (idx (memB d t p) d.k.length).getD j 0 ∈ idx (memB d t p) d.k.length := by
    rw [List.getD_eq_getElem?_getD, List.getElem?_eq_getElem hj]
    exact List.getElem_mem hj
  obtain ⟨h1, h2⟩ := (idx_mem _ _ _).1 hm
  generalize (idx (memB d t p) d.k.length).getD j 0 = q at *
  unfold memB at h2
  rw [Bool.and_eq_true, Bool.and_eq_true, upB_iff] at h2
  obtain ⟨hg, hq, h3, h4⟩ := h2
  obtain ⟨hpn, hp2⟩ := (gB_iff _ _).1 hg
  have hq2 : kd d q ≠ 2 := fun e => by rw [(gB_iff d q).2 ⟨h1, e⟩] at hq; cases hq
  refine ⟨?_, (inB_iff _ _ _ _).2 ⟨h1, hpn, hp2, fun e => hq2 (by rw [e]; exact hp2), h4⟩⟩
  unfold rB
  rw [decide_eq_true h1, Bool.true_and]
  exact bne_iff_ne.2 hq2

set_option maxRecDepth 100000 in
set_option maxHeartbeats 4000000 in
theorem walk (a0 : Option Addr) (len0 cap0 : Nat) (z0 : List Int) (w : World) (w0 : IsRow .i64 w a0 len0 cap0 z0) :
    Calls Try.prog 8 #[.slice a0 len0 cap0] w fun e w' => e = .returned (.bool true) ∧ Below w.heap.size w w' := by
  have hm := w0.at_.1
  unfold maxLen at hm
  have HTP := Lib.hid (tape_new w0)
  have HBX := Lib.hid (box_below w (.cells #[.slice a0 len0 cap0, .int .i64 0] 29))
  clear w0
  by_cases hlen : 300 < len0
  · have hl0 : (300 : Int) < (len0 : Int) := by omega
    go_enter Try.func8, Try.ntmps8
    go_wp2_with (go_at_call 10; refine (awake_any _).mono ?_; rintro e w1 ⟨rfl, hb1⟩; have HB1 := Lib.hid hb1; clear hb1)
    go_ret
    exact ⟨rfl, HB1.out⟩
  · have hl0 : (len0 : Int) ≤ (300 : Int) := by omega
    go_enter Try.func8, Try.ntmps8
    go_wp2_with fail
    refine (directory_any w.heap.size _ HTP.out (by simp)).mono ?_
    rintro e w1 ⟨d, v, rfl, hmk, hrl, hg1, ht1⟩
    have hb1 : Below w.heap.size w w1 := HBX.out.grown hg1 HBX.out.size (fun k e => by cases e; exact Nat.le_refl _)
    have hs1 := hg1.size
    simp at hs1
    have HQ := Lib.hid (heap_alloc_new w1 (.cells (gd d v) 25))
    have HDL := Lib.hid ((hrl.base (show w.heap.size + 1 ≤ _ by simp)).below (box_below w1 (.cells (gd d v) 25)))
    have HB1 := Lib.hid (hb1.trans ((box_below w1 (.cells (gd d v) 25)).mono hb1.size))
    have HT1 := Lib.hid (tape_new2 ht1 (.cells (gd d v) 25))
    have HMK := Lib.hid hmk
    have hn1 := hmk.n1
    have hn7 := hmk.n7
    clear hrl hg1 ht1 hb1 hmk
    obtain ⟨g0, g1⟩ := gdCells HQ.out
    go_wp2_with (with_reducible (show wpList _ _ _ (⟨none, .store 25 (.tmp 4) (.tmp 20), _, _, _, _⟩ :: _) _ _); refine wpList_store_row (o := ⟨none, .store 25 (.tmp 4) (.tmp 20), _, _, _, _⟩) rfl 25 (.tmp 4) (.tmp 20) rfl w1.heap.size (gd d v) rfl rfl 25 zD (heap_alloc_new _ _) (info25 _ _) rfl (gd_one _ _) ?_; rw [new_set])
    refine (next_any w.heap.size 24 _ HT1.out (by omega) (by omega)).mono ?_
    rintro e w2 ⟨zt, zt0, zt1, rfl, hg2, ht2⟩
    obtain ⟨t, rfl⟩ : ∃ z : Nat, zt = z := ⟨zt.toNat, by omega⟩
    generalize w1.heap.size = Q at *
    generalize w1.alloc (.cells (gd d v) 25) = W1 at *
    have lQ : Q < W1.heap.size := row_lt HQ.out
    have HQ2 := Lib.hid ((hg2.block _ lQ (fun e => by injection e; omega)).trans HQ.out)
    have HD2 := Lib.hid (HDL.out.grown hg2 (fun g e => by cases e; omega))
    have HB2 := Lib.hid (HB1.out.grown hg2 HB1.out.size (fun k e => by cases e; exact Nat.le_refl _))
    have HT2 := Lib.hid ht2
    clear hg2 ht2 g0 g1 HQ HDL HB1 HT1 lQ
    generalize w2 = W2 at *
    have HOK := Lib.hid HMK.out.ok
    have lQ : Q < W2.heap.size := row_lt HQ2.out
    have hgs := fun p w' (hw : Below W2.heap.size W2 w') => grps_any _ d v p t w' (HD2.out.below hw) HOK.out
    have hms := fun p w' (hw : Below W2.heap.size W2 w') => members22_any _ d v p t w' (HD2.out.below hw) HOK.out
    have hgr := fun p w' (hw : Below W2.heap.size W2 w') => rgroup_any _ d v p w' (HD2.out.below hw) (by omega)
    have hrd := fun p w' (hw : Below W2.heap.size W2 w') => reader_any _ d v p w' (HD2.out.below hw) (by omega)
    have hin := fun p g w' (hw : Below W2.heap.size W2 w') => in26_any _ d v p g t w' (HD2.out.below hw) HOK.out
    simp only [gd] at hgs hms hgr hrd hin
    have HGS := Lib.hid hgs
    have HMS := Lib.hid hms
    have HGR := Lib.hid hgr
    have HRD := Lib.hid hrd
    have HIN := Lib.hid hin
    have HGC := Lib.hid (fun w' (hw : Below W2.heap.size W2 w') => gdCells ((hw.block _ lQ).trans HQ2.out))
    clear hgs hms hgr hrd hin
    obtain ⟨g0, g1⟩ := gdCells HQ2.out
    go_wp2_with fail
    clear g0 g1
    go_loopw [26] (fun ii wr => ∃ k : Nat, k ≤ d.k.length ∧ ii = .int .i64 k ∧ Below W2.heap.size W2 wr) (fun ii _ => d.k.length - (intOf ii).toNat)
    case atStart => exact ⟨0, by omega, rfl, Below.refl _ _⟩
    case round =>
      obtain ⟨k, hk, rfl, hbl⟩ := hrel
      have HBK := Lib.hid hbl
      obtain ⟨g0, g1⟩ := HGC.out _ hbl
      clear hbl
      by_cases hlt : k < d.k.length
      · have j1 : (k : Int) < (d.k.length : Int) := by omega
        go_wp2_with fail
        refine (HGS.out k _ HBK.out).mono ?_
        rintro e w3 ⟨A, cc, rfl, hrow, hb3⟩
        have B3 := Lib.hid (HBK.out.trans (hb3.mono HBK.out.size))
        have hog : ∀ j, j < cnt (grpB d t k) d.k.length → gB d ((idx (grpB d t k) d.k.length).getD j 0) = true ∧ (idx (grpB d t k) d.k.length).getD j 0 ≠ k := fun j hj => of_grp HOK.out hj
        have hn24 := cnt_le (grpB d t k) d.k.length
        generalize cnt (grpB d t k) d.k.length = n1 at *
        generalize idx (grpB d t k) d.k.length = L1 at *
        have HOG := Lib.hid hog
        have HR3 := Lib.hid hrow
        clear hrow hb3 g0 g1 hog
        go_wp2_with fail
        go_loopw [34] (fun ii wr => ∃ j : Nat, j ≤ n1 ∧ ii = .int .i64 j ∧ Below w3.heap.size w3 wr) (fun ii _ => n1 - (intOf ii).toNat)
        case atStart => exact ⟨0, by omega, rfl, Below.refl _ _⟩
        case round =>
          obtain ⟨j, hj, rfl, hbl⟩ := hrel
          rename World => wj
          have HBJ := Lib.hid hbl
          have HBJ2 := Lib.hid (B3.out.trans (hbl.mono B3.out.size))
          obtain ⟨g0, g1⟩ := HGC.out _ HBJ2.out
          by_cases hlj : j < n1
          · obtain ⟨b, off, rfl, -, -, y0⟩ := (HR3.out.below hbl).int hlj
            obtain ⟨hg1, hne⟩ := HOG.out j hlj
            have HC := HGR.out (L1.getD j 0) wj HBJ2.out
            rw [hg1] at HC
            generalize L1.getD j 0 = u at *
            have HCH := Lib.hid HC
            have e1 : ((u : Int) == (k : Int)) = false := beq_eq_false_iff_ne.2 (by omega)
            have i0 : (0 : Int) ≤ (j : Int) := by omega
            have i1 : (j : Int) < (n1 : Int) := by omega
            clear hbl hg1 hne HC
            go_wp2_with (go_at_call 37; (with_reducible refine HCH.out.mono ?_); rintro e w4 ⟨rfl, hb4⟩; have HB4 := Lib.hid (HBJ.out.trans (hb4.mono HBJ.out.size)); clear hb4)
            exact ⟨⟨j + 1, by omega, by go_num, HB4.out⟩, by simp [intOf]; omega⟩
          · obtain rfl : n1 = j := by omega
            clear hbl
            go_wp2_with fail
            refine (HMS.out k _ HBJ2.out).mono ?_
            rintro e w4 ⟨A4, cc4, rfl, hown4, hb4⟩
            have hog : ∀ j, j < cnt (memB d t k) d.k.length → rB d ((idx (memB d t k) d.k.length).getD j 0) = true ∧ inB d t ((idx (memB d t k) d.k.length).getD j 0) k = true := fun j hj => of_mem hj
            have hzz : gB d k = false → cnt (memB d t k) d.k.length = 0 := fun h => (cnt_none (p := memB d t k) (n := d.k.length) (fun i hi => by unfold memB; rw [h]; rfl)).1
            have hn25 := cnt_le (memB d t k) d.k.length
            generalize cnt (memB d t k) d.k.length = n2 at *
            generalize idx (memB d t k) d.k.length = L2 at *
            have HOM := Lib.hid hog
            have HZZ := Lib.hid hzz
            clear hog hzz
            have B4 := Lib.hid (HBJ2.out.trans (hb4.mono HBJ2.out.size))
            have HR4 := Lib.hid (row_of_own hown4)
            obtain ⟨k0, k1⟩ := HGC.out _ B4.out
            have HC4 := Lib.hid (HGR.out k w4 B4.out)
            clear hown4 hb4 g0 g1
            cases hgk : gB d k with
            | true =>
              rw [hgk] at HC4
              clear hgk
              go_wp2_with (go_at_call 37; (with_reducible refine HC4.out.mono ?_); rintro e w5 ⟨rfl, hb5⟩; have B5 := Lib.hid (B4.out.trans (hb5.mono B4.out.size)); have HR5 := Lib.hid (HR4.out.below hb5); clear hb5)
              clear k0 k1
              go_loopw [63] (fun ii wr => ∃ j : Nat, j ≤ n2 ∧ ii = .int .i64 j ∧ Below w5.heap.size w5 wr) (fun ii _ => n2 - (intOf ii).toNat)
              case atStart => exact ⟨0, by omega, rfl, Below.refl _ _⟩
              case round =>
                obtain ⟨j, hj, rfl, hbl⟩ := hrel
                rename World => wm
                have HBJ := Lib.hid hbl
                have HBM := Lib.hid (B5.out.trans (hbl.mono B5.out.size))
                obtain ⟨g0, g1⟩ := HGC.out _ HBM.out
                by_cases hlj : j < n2
                · obtain ⟨b, off, rfl, -, -, y0⟩ := (HR5.out.below hbl).int hlj
                  obtain ⟨hr1, hi1⟩ := HOM.out j hlj
                  have HC := HRD.out (L2.getD j 0) wm HBM.out
                  have HI := fun w' (hw : Below W2.heap.size W2 w') => HIN.out (L2.getD j 0) k w' hw
                  rw [hr1] at HC
                  rw [hi1] at HI
                  generalize L2.getD j 0 = u at *
                  have HCH := Lib.hid HC
                  have HIH := Lib.hid HI
                  have i0 : (0 : Int) ≤ (j : Int) := by omega
                  have i1 : (j : Int) < (n2 : Int) := by omega
                  clear hbl hr1 hi1 HC HI
                  go_wp2_with (first
                    | (go_at_call 36; (with_reducible refine HCH.out.mono ?_); rintro e w6 ⟨rfl, hb6⟩; have B6 := Lib.hid (HBM.out.trans (hb6.mono HBM.out.size)); have B6' := Lib.hid (HBJ.out.trans (hb6.mono HBJ.out.size)); obtain ⟨k0, k1⟩ := HGC.out _ B6.out; clear hb6)
                    | (go_at_call 26; (with_reducible refine (HIH.out _ B6.out).mono ?_); rintro e w7 ⟨rfl, hb7⟩; have B7 := Lib.hid (B6'.out.trans (hb7.mono B6'.out.size)); clear hb7))
                  exact ⟨⟨j + 1, by omega, by go_num, B7.out⟩, by simp [intOf]; omega⟩
                · obtain rfl : n2 = j := by omega
                  clear hbl
                  go_wp2_with fail
                  exact ⟨⟨k + 1, by omega, by go_num, HBM.out⟩, by simp [intOf]; omega⟩
            | false =>
              rw [hgk] at HC4
              have hz := HZZ.out hgk
              have e9 : decide ((0 : Int) < (n2 : Int)) = false := decide_eq_false (by omega)
              have e8 : ¬ 0 < n2 := by omega
              clear hgk hz
              go_wp2_with (go_at_call 37; (with_reducible refine HC4.out.mono ?_); rintro e w5 ⟨rfl, hb5⟩; have B5 := Lib.hid (B4.out.trans (hb5.mono B4.out.size)); have HR5 := Lib.hid (HR4.out.below hb5); clear hb5)
              clear k0 k1
              go_loopw [63] (fun ii wr => ∃ j : Nat, j ≤ n2 ∧ ii = .int .i64 j ∧ Below w5.heap.size w5 wr) (fun ii _ => n2 - (intOf ii).toNat)
              case atStart => exact ⟨0, by omega, rfl, Below.refl _ _⟩
              case round =>
                obtain ⟨j, hj, rfl, hbl⟩ := hrel
                rename World => wm
                have HBJ := Lib.hid hbl
                have HBM := Lib.hid (B5.out.trans (hbl.mono B5.out.size))
                obtain ⟨g0, g1⟩ := HGC.out _ HBM.out
                by_cases hlj : j < n2
                · obtain ⟨b, off, rfl, -, -, y0⟩ := (HR5.out.below hbl).int hlj
                  obtain ⟨hr1, hi1⟩ := HOM.out j hlj
                  have HC := HRD.out (L2.getD j 0) wm HBM.out
                  have HI := fun w' (hw : Below W2.heap.size W2 w') => HIN.out (L2.getD j 0) k w' hw
                  rw [hr1] at HC
                  rw [hi1] at HI
                  generalize L2.getD j 0 = u at *
                  have HCH := Lib.hid HC
                  have HIH := Lib.hid HI
                  have i0 : (0 : Int) ≤ (j : Int) := by omega
                  have i1 : (j : Int) < (n2 : Int) := by omega
                  clear hbl hr1 hi1 HC HI
                  go_wp2_with (first
                    | (go_at_call 36; (with_reducible refine HCH.out.mono ?_); rintro e w6 ⟨rfl, hb6⟩; have B6 := Lib.hid (HBM.out.trans (hb6.mono HBM.out.size)); have B6' := Lib.hid (HBJ.out.trans (hb6.mono HBJ.out.size)); obtain ⟨k0, k1⟩ := HGC.out _ B6.out; clear hb6)
                    | (go_at_call 26; (with_reducible refine (HIH.out _ B6.out).mono ?_); rintro e w7 ⟨rfl, hb7⟩; have B7 := Lib.hid (B6'.out.trans (hb7.mono B6'.out.size)); clear hb7))
                  exact ⟨⟨j + 1, by omega, by go_num, B7.out⟩, by simp [intOf]; omega⟩
                · obtain rfl : n2 = j := by omega
                  clear hbl
                  go_wp2_with fail
                  exact ⟨⟨k + 1, by omega, by go_num, HBM.out⟩, by simp [intOf]; omega⟩
      · obtain rfl : k = d.k.length := by omega
        go_wp2_with fail
        refine (awake_any _).mono ?_
        rintro e w9 ⟨rfl, hb9⟩
        have HB9 := Lib.hid (HB2.out.trans ((HBK.out.trans (hb9.mono HBK.out.size)).mono HB2.out.size))
        clear hb9
        go_wp2_with fail
        go_ret
        exact ⟨rfl, HB9.out⟩

/-! ### THE ROW's STEP: WRITTEN OUT: LEAVE IT -/
set_option maxRecDepth 100000 in
theorem lifted (os : Os) (started : os.Started) (H : Type) (enc : TypeId × Value → H) :
    ReturnsInHanded {} Try.checked os 8 .any (Rows.directoryKindsSpec.pre6 enc Try.prog Try.f8 Rows.directoryKindsRow.domain false) (Rows.directoryKindsSpec.post enc Try.prog Try.f8 false true false false) := by
  refine returnsInHanded_of_change (C := Try.checked) own started (by kernel_rfl) Try.func8
    (ChangeSpec.witness6 (enc := enc) (C := Try.checked) false ⟨#[], #[.slice none 0 0], []⟩ 8 (by kernel_rfl) (by kernel_rfl) (by kernel_rfl) (by kernel_rfl)) ?_
  intro W base args ds gs before hval0 hW hcnd _
  have hval : ∀ (j : Nat) t v, Try.f8.params[j]? = some t → args[j]? = some v → Value.okWide Try.prog W .any base t v := hval0
  have hW' := hW
  obtain ⟨p, q, hA0, hV, rfl, hfz, hnd⟩ := hW
  have hA : DataW.TrodAll enc Try.prog W 0 (fun _ => true) true Try.f8.params.toList args.toList ds p := hA0
  rw [Try.params8] at hA hval
  obtain ⟨v0, vs0, d0, ds0, p0, q0, hargs, rfl, rfl, h0, r0⟩ := trodAll_cons hA
  obtain ⟨rfl, rfl, rfl⟩ := trodAll_nil r0
  obtain rfl : args = #[v0] := by cases args; simp_all
  obtain ⟨rfl, rfl⟩ := trodVars_none hV
  obtain ⟨a0, len0, cap0, rfl⟩ := okWide_slice Try.underlying22 (hval 0 22 v0 rfl rfl)
  have k0 := h0
  have lt0 : ∀ x ∈ p0, x.block < W.heap.size := by obtain ⟨m, hm⟩ := k0; exact DataW.trod_lt m _ _ _ hm
  obtain ⟨z0, w0⟩ : ∃ zs, IsRow .i64 W a0 len0 cap0 zs := by
    obtain ⟨fuel, hf⟩ := h0
    rcases open_ints Try.underlying22 Try.underlying3 (by kernel_rfl) hf with ⟨hcs, _⟩ | ⟨x, l, c, zs, hcs, _, hl, hm, hz, _, hcell, hwz⟩
    · simp [Value.cells] at hcs
      obtain ⟨rfl, rfl, rfl⟩ := hcs
      exact ⟨[], .inl ⟨rfl, rfl, rfl, rfl⟩⟩
    · simp [Value.cells] at hcs
      obtain ⟨rfl, rfl, rfl⟩ := hcs
      exact ⟨zs, .inr ⟨_, rfl, hl, hm, by simpa using hz, hcell, hwz⟩⟩
  clear hA0 hval0
  refine (walk a0 len0 cap0 z0 W w0).mono fun e W' ⟨he, bel⟩ => ?_
  subst he
  exact ⟨_, rfl, _, _, _, [], _, [], hW', trodAll_mk1 (shut_bool Try.underlying4 _), (trodAll_cons_mk (Below.trod laidOut (by kernel_rfl) (of_decide_eq_true (by kernel_rfl)) k0 bel lt0) trodAll_mk0), rfl, bel.frame _, fun h => by cases h⟩

theorem over : Rows.directoryKindsRow.holds Try.pinned (OpenSpec.ofChange Rows.directoryKindsSpec) :=
  OpenClaim.holds_of_wide 8 Try.f8 rfl rfl rfl rfl rfl rfl rfl ⟨rfl, rfl, rfl, rfl, rfl⟩ rfl rfl rfl rfl rfl (by kernel_rfl) Try.func8 (by kernel_rfl)
    (of_decide_eq_true (by kernel_rfl)) (by unfold Func.isWrapper; first | (rw [if_pos (by decide +kernel)]; kernel_rfl) | (rw [if_neg (by decide +kernel)]; exact ⟨rfl, rfl⟩))
    (fun os started H enc _ => lifted os started H enc)

/-- ████ THE STATEMENT ████ -/
theorem proved : Rows.DirectoryKindsSaid := over
#print axioms proved
end Go.Proofs.Ytdhofngildjifaa.directoryKinds
