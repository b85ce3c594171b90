/-
  The Go function leakresponse/leakresponselaw36.ClusterRevives returns true for every list of numbers, and leaves what was there as it was; no conditions.
-/
import Derived.Test.YtamcjhibdcbdnaaCAl
import Derived.Test.YtamcjhibdcbdnaaRows
import Derived.WalkKit
import Derived.ProofKit
import Derived.OpenShut
import Derived.ShutString
import Derived.ChangeOld
import Derived.Below
namespace Go.Proofs.Ytamcjhibdcbdnaa.clusterRevives
open Go.ChangeShapes Go.WideShapes Go.ChangeAt Go.RowKit
open Go.ChangeMaps (open_string shut_string)
open Go.Proofs.Ytamcjhibdcbdnaa.Tp
open Go.Proofs.Ytamcjhibdcbdnaa.Cl
set_option linter.unusedVariables false

set_option maxRecDepth 100000 in
set_option maxHeartbeats 4000000 in
theorem walk (a0 : Option Addr) (len0 cap0 : Nat) (z0 : List Int) (w : World) (w0 : IsRow .i64 w a0 len0 cap0 z0) :
    Calls Try.prog 5 #[.slice a0 len0 cap0] w fun e w' => e = .returned (.bool true) ∧ Below w.heap.size w w' := by
  have hm := w0.at_.1
  unfold maxLen at hm
  have HTP := Lib.hid (tape_new w0)
  have HBX := Lib.hid (box_below w (.cells #[.slice a0 len0 cap0, .int .i64 0] 32))
  clear w0
  by_cases hlen : 300 < len0
  · have hl0 : (300 : Int) < (len0 : Int) := by omega
    go_enter Try.func5, Try.ntmps5
    go_wp2_with (go_at_call 13; refine (awake36 _).mono ?_; rintro e w1 ⟨rfl, hb1⟩; have HB1 := Lib.hid hb1; clear hb1)
    go_ret
    exact ⟨rfl, HB1.out⟩
  · have hl0 : (len0 : Int) ≤ (300 : Int) := by omega
    go_enter Try.func5, Try.ntmps5
    go_wp2_with fail
    refine (between_any w.heap.size 1 3 _ HTP.out (by omega) (by omega) (by omega) (by omega)).mono ?_
    rintro e w1 ⟨r, hr0, hr1, rfl, hg1, ht1⟩
    obtain ⟨n, rfl⟩ : ∃ n : Nat, r = n := ⟨r.toNat, by omega⟩
    have hb1 : Below w.heap.size w w1 := HBX.out.grown hg1 HBX.out.size (fun k e => by cases e; exact Nat.le_refl _)
    have hs1 := hg1.size
    simp at hs1
    have hnew := refnew_any n 1 false w1 (by omega) (by omega) (by omega)
    have e1 : ((1 : Nat) : Int) = 1 := rfl
    rw [e1] at hnew
    have HNEW := Lib.hid hnew
    have HB1 := Lib.hid hb1
    have HT1 := Lib.hid ht1
    clear hnew e1 hb1 ht1 hg1
    go_wp2_with fail
    refine HNEW.out.mono ?_
    rintro e w2 ⟨v2, rfl, hc2, hb2⟩
    have HNL := Lib.hid (nw_len n 1 false)
    have HOKN := Lib.hid (ok_nw n 1 false (by omega) (by omega) (by omega))
    have hfit := fun i (hi : i < n) => rvFits n i hi
    have hrw := fun i (hi : i < n) => rw_start n i (by omega) (by omega) hi
    have hrn : ∀ i, rn (nw n 1 false) [⟨3, i, 0, 0⟩, ⟨1, 0, 0, 2⟩] 2 = rvC n i := fun _ => rfl
    have HFIT := Lib.hid hfit
    have HRW := Lib.hid hrw
    have HRN := Lib.hid hrn
    clear HNEW hfit hrw hrn
    generalize nw n 1 false = c at *
    have Q2 := Lib.hid (heap_alloc_new w2 (.cells (cv c v2) 25))
    have HC2 := Lib.hid (hc2.below (box_below w2 (.cells (cv c v2) 25)))
    have HB2 := Lib.hid ((HB1.out.trans (hb2.mono HB1.out.size)).trans ((box_below w2 (.cells (cv c v2) 25)).mono (Nat.le_trans HB1.out.size hb2.size)))
    have HT2 := Lib.hid (tape_new2 (tape_below HT1.out hb2) (.cells (cv c v2) 25))
    have hs2 := hb2.size
    clear hc2 hb2
    obtain ⟨c0, c1, c2, c3⟩ := cvCells _ _ _ _ _ _ Q2.out
    rw [HNL.out] at c2
    go_wp2_with (with_reducible (show wpList _ _ _ (⟨none, .store 25 (.tmp 4) (.tmp 23), _, _, _, _⟩ :: _) _ _); refine wpList_store_row (o := ⟨none, .store 25 (.tmp 4) (.tmp 23), _, _, _, _⟩) rfl 25 (.tmp 4) (.tmp 23) rfl w2.heap.size (cv c v2) rfl rfl 25 zC (heap_alloc_new _ _) (info25 _ _) rfl (cv_one _ _) ?_; rw [new_set])
    refine (next_any w.heap.size n _ HT2.out (by omega) (by omega)).mono ?_
    rintro e w3 ⟨r, hr2, hr3, rfl, hg3, ht3⟩
    obtain ⟨i, rfl⟩ : ∃ i : Nat, r = i := ⟨r.toNat, by omega⟩
    have hi : i < n := by omega
    have Q3 := Lib.hid ((hg3.block w2.heap.size (by simp) (by simp; omega)).trans Q2.out)
    have HC3 := Lib.hid (HC2.out.grown hg3 (fun g e => by cases e; omega))
    have HB3 := Lib.hid (HB2.out.grown hg3 HB2.out.size (fun k e => by cases e; exact Nat.le_refl _))
    have hs3 := hg3.size
    simp at hs3
    generalize w2.heap.size = Q at *
    have HFI := Lib.hid (HFIT.out i hi)
    have HRI := Lib.hid (HRW.out i hi)
    have HRE := Lib.hid (HRN.out i)
    clear hg3 ht3 hr2 hr3 c0 c1 c2 c3 HFIT HRW HRN
    obtain ⟨c0, c1, c2, c3⟩ := cvCells _ _ _ _ _ _ Q3.out
    rw [HNL.out] at c2
    have hrun : ∀ w', CL w' w1.heap.size c v2 → Row w' 0 4 (some ⟨w3.heap.size, 0, none⟩) 2 (el [⟨3, i, 0, 0⟩, ⟨1, 0, 0, 2⟩]) → Calls Try.prog 28 #[.agg #[.bool c.f, .slice v2.A1 c.s.length v2.c1, .slice v2.A2 n v2.c2, .slice v2.A3 c.p.length v2.c3], .slice (some ⟨w3.heap.size, 0, none⟩) 2 2] w' (RunPost c [⟨3, i, 0, 0⟩, ⟨1, 0, 0, 2⟩] w') := fun w' hc hr => by
      have := refrun_any 0 _ 2 2 _ c v2 _ w' hc HOKN.out (by omega) hr HFI.out
      rw [cv, HNL.out] at this
      exact this
    have HRUN := Lib.hid hrun
    have HROW := Lib.hid (evRow2 w3 i)
    clear hrun
    go_wp2_with fail
    refine (HRUN.out _ (HC3.out.below (box_below _ _)) HROW.out).mono ?_
    rintro e w5 ⟨v5, rfl, hc5, hb5, hcb⟩
    have hcb := hcb (by simp)
    have hle : (([⟨3, i, 0, 0⟩, ⟨1, 0, 0, 2⟩] : List Ev).length) = 2 := rfl
    rw [hle] at hc5 hcb ⊢
    rw [HRE.out] at hc5 hcb ⊢
    have hrl := HRI.out.r
    generalize rvC n i = D0 at *
    have hs5 := hb5.size
    simp at hs5
    have Q5 := Lib.hid ((hb5.block Q (by simp; omega)).trans ((heap_alloc_old _ _ (by omega)).trans Q3.out))
    have QW := Lib.hid (setRow_heap _ _ _ (cv D0 v5) _ _ Q5.out)
    have hcw := (hcb.base (show Q + 1 ≤ _ by simp; omega)).set (Nat.lt_succ_self Q) (cv D0 v5)
    have HCW := Lib.hid hcw
    have HBW := Lib.hid (below_setRow ((HB3.out.trans ((box_below w3 (.cells #[.int .i64 3, .int .i64 (i : Int), .int .i64 0, .int .i64 0, .int .i64 1, .int .i64 0, .int .i64 0, .int .i64 2] 27)).mono HB3.out.size)).trans (hb5.mono (by simp; have := HB3.out.size; omega))) (show w.heap.size ≤ Q by omega) (cv D0 v5))
    clear hc5 hcb hb5 hcw hle c0 c1 c2 c3
    generalize hWW : w5.setRow Q (cv D0 v5) = W at *
    have HWW := Lib.hid hWW
    clear hWW
    obtain ⟨c0, c1, c2, c3⟩ := cvCells _ _ _ _ _ _ QW.out
    rw [hrl] at c2
    have HRL := Lib.hid hrl
    clear hrl
    go_wp2_with (with_reducible (show wpList _ _ _ (⟨none, .store 25 (.tmp 4) (.tmp 37), _, _, _, _⟩ :: _) _ _); refine wpList_store_row (o := ⟨none, .store 25 (.tmp 4) (.tmp 37), _, _, _, _⟩) rfl 25 (.tmp 4) (.tmp 37) rfl Q (cv D0 v5) rfl rfl 25 (cv c v2) Q5.out (info25 _ _) rfl (cv_one _ _) ?_; rw [HWW.out])
    clear c0 c1 c2 c3
    go_loopw [43] (fun ii wr => ∃ k : Nat, k ≤ n ∧ ii = .int .i64 k ∧ ∃ D u, Rw n k D ∧ wr.heap[Q]? = some (.cells (cv D u) 25 (0, 0)) ∧ CL wr (Q + 1) D u ∧ Below w.heap.size w wr) (fun ii _ => n - (intOf ii).toNat)
    case atStart => exact ⟨0, by omega, rfl, D0, v5, HRI.out, QW.out, HCW.out, HBW.out⟩
    case round =>
      clear QW HCW HBW HRI
      obtain ⟨k, hk, rfl, D, u, hrw, hq, hcl, hbl⟩ := hrel
      have HRK := Lib.hid hrw
      have HQK := Lib.hid hq
      have HCK := Lib.hid hcl
      have HBK := Lib.hid hbl
      have lq := row_lt hq
      clear hrw hq hcl hbl
      obtain ⟨c0, c1, c2, c3⟩ := cvCells _ _ _ _ _ _ HQK.out
      by_cases hlt : k < n
      · have i0 : (0 : Int) ≤ (k : Int) := by omega
        have i1 : (k : Int) < (n : Int) := by omega
        go_wp2_with fail
        refine (sync_x HCK.out HRK.out.ok (by rw [HRK.out.r]; exact hlt) (by omega)).mono ?_
        rintro e w7 ⟨v8, rfl, hc7, hb7⟩
        have Q7 := Lib.hid ((hb7.block Q lq).trans HQK.out)
        have HB7 := Lib.hid (below_setRow (HBK.out.trans (hb7.mono HBK.out.size)) (show w.heap.size ≤ Q by omega) (cv (sy1 D k) v8))
        have HC7 := Lib.hid ((hc7.base (show Q + 1 ≤ wr.heap.size from lq)).set (Nat.lt_succ_self Q) (cv (sy1 D k) v8))
        have HQ7 := Lib.hid (setRow_heap _ _ _ (cv (sy1 D k) v8) _ _ Q7.out)
        clear hb7 hc7 c0 c1 c2 c3
        go_wp2_with (with_reducible (show wpList _ _ _ (⟨none, .store 25 (.tmp 4) (.tmp 51), _, _, _, _⟩ :: _) _ _); refine wpList_store_row (o := ⟨none, .store 25 (.tmp 4) (.tmp 51), _, _, _, _⟩) rfl 25 (.tmp 4) (.tmp 51) rfl Q (cv (sy1 D k) v8) rfl rfl 25 (cv D u) Q7.out (info25 _ _) rfl (cv_one _ _) ?_)
        exact ⟨⟨k + 1, by omega, by go_num, sy1 D k, v8, rw_sync HRK.out hlt, HQ7.out, HC7.out, HB7.out⟩, by simp [intOf]; omega⟩
      · obtain rfl : n = k := by omega
        have hrv := rev_snap 2 _ 1 D u wr HCK.out HRK.out.ok (by omega) (.inl rfl) (rw_dead HRK.out) HRK.out.f (rw_snap HRK.out)
        have e1 : ((1 : Nat) : Int) = 1 := rfl
        rw [e1, cv] at hrv
        have HRV := Lib.hid hrv
        clear hrv e1
        go_wp2_with fail
        refine HRV.out.mono ?_
        rintro e w8 ⟨q, hq, hh, A, cc, rfl, hrow, hb8⟩
        have Q8 := Lib.hid ((hb8.block Q lq).trans HQK.out)
        have HC8 := Lib.hid (HCK.out.below hb8)
        have HB8 := Lib.hid (HBK.out.trans (hb8.mono HBK.out.size))
        have HAL := Lib.hid (one_alive HRK.out.ok HRK.out.f hh)
        have HOF := Lib.hid (one_fits HRK.out.ok hq)
        have HROW8 := Lib.hid (hrow.base (Nat.zero_le _))
        clear hb8 hrow hq hh HRV c0 c1 c2 c3
        obtain ⟨c0, c1, c2, c3⟩ := cvCells _ _ _ _ _ _ Q8.out
        go_wp2_with fail
        refine (dead_1 HC8.out HRK.out.ok (by omega)).mono ?_
        rintro e w9 ⟨rfl, hb9⟩
        rw [rw_dead HRK.out]
        have Q9 := Lib.hid ((hb9.block Q (row_lt Q8.out)).trans Q8.out)
        have HC9 := Lib.hid (HC8.out.below hb9)
        have HB9 := Lib.hid (HB8.out.trans (hb9.mono HB8.out.size))
        have HROW9 := Lib.hid (HROW8.out.below hb9)
        clear hb9 c0 c1 c2 c3
        obtain ⟨c0, c1, c2, c3⟩ := cvCells _ _ _ _ _ _ Q9.out
        have hal := alive_any 2 _ 1 cc A D u [⟨4, 0, q, 0⟩] w9 HC9.out HRK.out.ok (by omega) HROW9.out HOF.out (fun j hj => by
          obtain rfl : j = 0 := by omega
          show (4 : Nat) ≠ 1
          omega)
        rw [show ([⟨4, 0, q, 0⟩] : List Ev).length = 1 from rfl, HAL.out, cv] at hal
        have HALV := Lib.hid hal
        clear hal
        go_wp2_with fail
        refine HALV.out.mono ?_
        rintro e w10 ⟨rfl, hb10⟩
        have HB10 := Lib.hid (HB9.out.trans (hb10.mono HB9.out.size))
        clear hb10 c0 c1 c2 c3
        go_wp2_with fail
        refine (awake36 _).mono ?_
        rintro e w11 ⟨rfl, hb11⟩
        have HB11 := Lib.hid (HB10.out.trans (hb11.mono HB10.out.size))
        clear hb11
        go_wp2_with fail
        go_ret
        exact ⟨rfl, HB11.out⟩

/-! ### THE ROW's STEP: WRITTEN OUT: LEAVE IT -/
set_option maxRecDepth 100000 in
theorem lifted (os : Os) (started : os.Started) (H : Type) (enc : TypeId × Value → H) :
    ReturnsInHanded {} Try.checked os 5 .any (Rows.clusterRevivesSpec.pre6 enc Try.prog Try.f5 Rows.clusterRevivesRow.domain false) (Rows.clusterRevivesSpec.post enc Try.prog Try.f5 false true false false) := by
  refine returnsInHanded_of_change (C := Try.checked) own started (by kernel_rfl) Try.func5
    (ChangeSpec.witness6 (enc := enc) (C := Try.checked) false ⟨#[], #[.slice none 0 0], []⟩ 8 (by kernel_rfl) (by kernel_rfl) (by kernel_rfl) (by kernel_rfl)) ?_
  intro W base args ds gs before hval0 hW hcnd _
  have hval : ∀ (j : Nat) t v, Try.f5.params[j]? = some t → args[j]? = some v → Value.okWide Try.prog W .any base t v := hval0
  have hW' := hW
  obtain ⟨p, q, hA0, hV, rfl, hfz, hnd⟩ := hW
  have hA : DataW.TrodAll enc Try.prog W 0 (fun _ => true) true Try.f5.params.toList args.toList ds p := hA0
  rw [Try.params5] at hA hval
  obtain ⟨v0, vs0, d0, ds0, p0, q0, hargs, rfl, rfl, h0, r0⟩ := trodAll_cons hA
  obtain ⟨rfl, rfl, rfl⟩ := trodAll_nil r0
  obtain rfl : args = #[v0] := by cases args; simp_all
  obtain ⟨rfl, rfl⟩ := trodVars_none hV
  obtain ⟨a0, len0, cap0, rfl⟩ := okWide_slice Try.underlying22 (hval 0 22 v0 rfl rfl)
  have k0 := h0
  have lt0 : ∀ x ∈ p0, x.block < W.heap.size := by obtain ⟨m, hm⟩ := k0; exact DataW.trod_lt m _ _ _ hm
  obtain ⟨z0, w0⟩ : ∃ zs, IsRow .i64 W a0 len0 cap0 zs := by
    obtain ⟨fuel, hf⟩ := h0
    rcases open_ints Try.underlying22 Try.underlying3 (by kernel_rfl) hf with ⟨hcs, _⟩ | ⟨x, l, c, zs, hcs, _, hl, hm, hz, _, hcell, hwz⟩
    · simp [Value.cells] at hcs
      obtain ⟨rfl, rfl, rfl⟩ := hcs
      exact ⟨[], .inl ⟨rfl, rfl, rfl, rfl⟩⟩
    · simp [Value.cells] at hcs
      obtain ⟨rfl, rfl, rfl⟩ := hcs
      exact ⟨zs, .inr ⟨_, rfl, hl, hm, by simpa using hz, hcell, hwz⟩⟩
  clear hA0 hval0
  refine (walk a0 len0 cap0 z0 W w0).mono fun e W' ⟨he, bel⟩ => ?_
  subst he
  exact ⟨_, rfl, _, _, _, [], _, [], hW', trodAll_mk1 (shut_bool Try.underlying4 _), (trodAll_cons_mk (Below.trod laidOut (by kernel_rfl) (of_decide_eq_true (by kernel_rfl)) k0 bel lt0) trodAll_mk0), rfl, bel.frame _, fun h => by cases h⟩

theorem over : Rows.clusterRevivesRow.holds Try.pinned (OpenSpec.ofChange Rows.clusterRevivesSpec) :=
  OpenClaim.holds_of_wide 5 Try.f5 rfl rfl rfl rfl rfl rfl rfl ⟨rfl, rfl, rfl, rfl, rfl⟩ rfl rfl rfl rfl rfl (by kernel_rfl) Try.func5 (by kernel_rfl)
    (of_decide_eq_true (by kernel_rfl)) (by unfold Func.isWrapper; first | (rw [if_pos (by decide +kernel)]; kernel_rfl) | (rw [if_neg (by decide +kernel)]; exact ⟨rfl, rfl⟩))
    (fun os started H enc _ => lifted os started H enc)

/-- ████ THE STATEMENT ████ -/
theorem proved : Rows.ClusterRevivesSaid := over
#print axioms proved
end Go.Proofs.Ytamcjhibdcbdnaa.clusterRevives
