/-
  The Go function leakresponse/leakresponselaw23.DirectoryLeast returns true for every list of numbers, and leaves what was there as it was; no conditions. Every closed set with a principal has all groups in which it is.
-/
import Derived.Test.YtdhofngildjifaaDjN
import Derived.Test.YtdhofngildjifaaRows
import Derived.WalkKit
import Derived.ProofKit
import Derived.OpenShut
import Derived.ShutString
import Derived.ChangeOld
import Derived.Below
namespace Go.Proofs.Ytdhofngildjifaa.directoryLeast
open Go.ChangeShapes Go.WideShapes Go.ChangeAt Go.RowKit
open Go.ChangeMaps (open_string shut_string)
open Go.Proofs.Ytdhofngildjifaa.Tp
open Go.Proofs.Ytdhofngildjifaa.Di
set_option linter.unusedVariables false

set_option maxRecDepth 100000 in
set_option maxHeartbeats 4000000 in
theorem walk (a0 : Option Addr) (len0 cap0 : Nat) (z0 : List Int) (w : World) (w0 : IsRow .i64 w a0 len0 cap0 z0) :
    Calls Try.prog 5 #[.slice a0 len0 cap0] w fun e w' => e = .returned (.bool true) ∧ Below w.heap.size w w' := by
  have hm := w0.at_.1
  unfold maxLen at hm
  have HTP := Lib.hid (tape_new w0)
  have HBX := Lib.hid (box_below w (.cells #[.slice a0 len0 cap0, .int .i64 0] 29))
  clear w0
  by_cases hlen : 300 < len0
  · have hl0 : (300 : Int) < (len0 : Int) := by omega
    go_enter Try.func5, Try.ntmps5
    go_wp2_with (go_at_call 10; refine (awake_any _).mono ?_; rintro e w1 ⟨rfl, hb1⟩; have HB1 := Lib.hid hb1; clear hb1)
    go_ret
    exact ⟨rfl, HB1.out⟩
  · have hl0 : (len0 : Int) ≤ (300 : Int) := by omega
    go_enter Try.func5, Try.ntmps5
    go_wp2_with fail
    refine (directory_any w.heap.size _ HTP.out (by simp)).mono ?_
    rintro e w1 ⟨d, v, rfl, hmk, hrl, hg1, ht1⟩
    have hb1 : Below w.heap.size w w1 := HBX.out.grown hg1 HBX.out.size (fun k e => by cases e; exact Nat.le_refl _)
    have hs1 := hg1.size
    simp at hs1
    have HQ := Lib.hid (heap_alloc_new w1 (.cells (gd d v) 25))
    have HDL := Lib.hid ((hrl.base (show w.heap.size + 1 ≤ _ by simp)).below (box_below w1 (.cells (gd d v) 25)))
    have HB1 := Lib.hid (hb1.trans ((box_below w1 (.cells (gd d v) 25)).mono hb1.size))
    have HT1 := Lib.hid (tape_new2 ht1 (.cells (gd d v) 25))
    have HMK := Lib.hid hmk
    have hn1 := hmk.n1
    have hn7 := hmk.n7
    clear hrl hg1 ht1 hb1 hmk
    obtain ⟨g0, g1⟩ := gdCells HQ.out
    go_wp2_with (with_reducible (show wpList _ _ _ (⟨none, .store 25 (.tmp 4) (.tmp 20), _, _, _, _⟩ :: _) _ _); refine wpList_store_row (o := ⟨none, .store 25 (.tmp 4) (.tmp 20), _, _, _, _⟩) rfl 25 (.tmp 4) (.tmp 20) rfl w1.heap.size (gd d v) rfl rfl 25 zD (heap_alloc_new _ _) (info25 _ _) rfl (gd_one _ _) ?_; rw [new_set])
    refine (next_any w.heap.size 24 _ HT1.out (by omega) (by omega)).mono ?_
    rintro e w2 ⟨zt, zt0, zt1, rfl, hg2, ht2⟩
    obtain ⟨t, rfl⟩ : ∃ z : Nat, zt = z := ⟨zt.toNat, by omega⟩
    generalize w1.heap.size = Q at *
    generalize w1.alloc (.cells (gd d v) 25) = W1 at *
    have lQ : Q < W1.heap.size := row_lt HQ.out
    have HQ2 := Lib.hid ((hg2.block _ lQ (fun e => by injection e; omega)).trans HQ.out)
    have HD2 := Lib.hid (HDL.out.grown hg2 (fun g e => by cases e; omega))
    have HB2 := Lib.hid (HB1.out.grown hg2 HB1.out.size (fun k e => by cases e; exact Nat.le_refl _))
    have HT2 := Lib.hid ht2
    clear hg2 ht2 g0 g1 HQ HDL HB1 HT1 lQ
    generalize w2 = W2 at *
    have HOK := Lib.hid HMK.out.ok
    have lQ : Q < W2.heap.size := row_lt HQ2.out
    have hT2 : w.heap.size < W2.heap.size := by omega
    have hkeep : ∀ w', W2.grownBy w' (some w.heap.size) → (w'.heap[Q]? = some (.cells (gd d v) 25 (0, 0))) ∧ DL w' (w.heap.size + 1) d v ∧ Below w.heap.size w w' := fun w' hg =>
      ⟨(hg.block _ lQ (fun e => by injection e; omega)).trans HQ2.out, HD2.out.grown hg (fun g e => by cases e; omega), HB2.out.grown hg HB2.out.size (fun k e => by cases e; exact Nat.le_refl _)⟩
    have HKEEP := Lib.hid hkeep
    clear hkeep
    go_wp2_with fail
    go_loopw [6] (fun ii wr => ∃ k : Nat, k ≤ 6 ∧ ii = .int .i64 k ∧ W2.grownBy wr (some w.heap.size) ∧ TapeOk wr w.heap.size) (fun ii _ => 6 - (intOf ii).toNat)
    case atStart => exact ⟨0, by omega, rfl, World.grownBy.refl _ _, HT2.out⟩
    case round =>
      obtain ⟨k, hk, rfl, hg, ht⟩ := hrel
      have HG := Lib.hid hg
      have HT := Lib.hid ht
      obtain ⟨hq, hd, hb⟩ := HKEEP.out _ hg
      have HQR := Lib.hid hq
      have HDR := Lib.hid hd
      have HBR := Lib.hid hb
      by_cases hlt : k < 6
      · have k6 : (k : Int) < 6 := by omega
        have HFW := Lib.hid (few_any w.heap.size d.k.length wr ht (by have := hg.size; omega) (by omega))
        obtain ⟨g0, g1⟩ := gdCells hq
        clear hg ht hq hd hb
        go_wp2_with fail
        refine HFW.out.mono ?_
        rintro e w3 ⟨l, As, cs, rfl, hst, hown, hg3, ht3⟩
        have hg23 := gb_trans HG.out hg3
        obtain ⟨hq, hd, hb⟩ := HKEEP.out _ hg23
        have HG3 := Lib.hid hg23
        have HT3 := Lib.hid ht3
        have HR3 := Lib.hid ((row_of_own hown).base (Nat.zero_le _))
        have hcl := closed_any _ d v t cs As l w3 hd HOK.out HR3.out hst
        have hgs := fun p w' (hw : Below w3.heap.size w3 w') => grps_any _ d v p t w' (hd.below hw) HOK.out
        simp only [gd] at hcl hgs
        have HCL := Lib.hid hcl
        have HGS := Lib.hid hgs
        have HGC := Lib.hid (fun w' (hw : Below w3.heap.size w3 w') => gdCells ((hw.block _ (row_lt hq)).trans hq))
        have HST := Lib.hid hst
        have hll := hst.len
        obtain ⟨k0, k1⟩ := gdCells hq
        clear g0 g1 hst hown hg3 ht3 hg23 hq hd hb hcl hgs HFW
        have hto : ∀ w', Below w3.heap.size w3 w' → W2.grownBy w' (some w.heap.size) ∧ TapeOk w' w.heap.size := fun w' hw => ⟨gb_trans HG3.out (gb_row (gb_of_below hw)), tape_below HT3.out hw⟩
        have HTO := Lib.hid hto
        clear hto
        cases hc : clB d t l with
        | false =>
          rw [hc] at HCL
          clear hc
          go_wp2_with (go_at_call 31; (with_reducible refine HCL.out.mono ?_); rintro e w4 ⟨rfl, hb4⟩; have B4 := Lib.hid hb4; clear hb4)
          exact ⟨⟨k + 1, by omega, by go_num, (HTO.out _ B4.out).1, (HTO.out _ B4.out).2⟩, by simp [intOf]; omega⟩
        | true =>
          rw [hc] at HCL
          have HHAS := Lib.hid (fun i g (hi : i < l.length) (hr : Rc d t (l.getD i 0) g) => cl_has hc hi hr)
          clear hc
          go_wp2_with (go_at_call 31; (with_reducible refine HCL.out.mono ?_); rintro e w4 ⟨rfl, hb4⟩; have B4 := Lib.hid hb4; clear hb4)
          clear k0 k1
          go_loopw [39] (fun ii wr => ∃ i : Nat, i ≤ l.length ∧ ii = .int .i64 i ∧ Below w3.heap.size w3 wr) (fun ii _ => l.length - (intOf ii).toNat)
          case atStart => exact ⟨0, by omega, rfl, B4.out⟩
          case round =>
            obtain ⟨i, hi, rfl, hbl⟩ := hrel
            rename World => wi
            have HBI := Lib.hid hbl
            by_cases hli : i < l.length
            · obtain ⟨b, off, hAs, -, -, y0⟩ := (HR3.out.below hbl).int hli
              subst hAs
              obtain ⟨k0, k1⟩ := HGC.out _ hbl
              have hgs := HGS.out (l.getD i 0) wi hbl
              have hog : ∀ j, j < cnt (grpB d t (l.getD i 0)) d.k.length → inl l ((idx (grpB d t (l.getD i 0)) d.k.length).getD j 0) = true := fun j hj => by
                obtain ⟨h1, h2⟩ := at_idx hj
                unfold grpB at h2
                rw [Bool.and_eq_true, upB_iff] at h2
                exact HHAS.out i _ hli h2.1.2
              have hcg := cnt_le (grpB d t (l.getD i 0)) d.k.length
              unfold SrPost at hgs
              generalize cnt (grpB d t (l.getD i 0)) d.k.length = ng at *
              generalize idx (grpB d t (l.getD i 0)) d.k.length = Lg at *
              generalize l.getD i 0 = p at *
              have HGP := Lib.hid hgs
              have HOG := Lib.hid hog
              have i0 : (0 : Int) ≤ (i : Int) := by omega
              have i1 : (i : Int) < (l.length : Int) := by omega
              clear hbl hgs hog
              go_wp2_with fail
              refine HGP.out.mono ?_
              rintro e w5 ⟨Ag, cg, rfl, hrow, hb5⟩
              have HRG := Lib.hid hrow
              have B5 := Lib.hid (HBI.out.trans (hb5.mono HBI.out.size))
              clear hrow hb5 k0 k1 y0
              go_wp2_with fail
              go_loopw [48] (fun ii wr => ∃ j : Nat, j ≤ ng ∧ ii = .int .i64 j ∧ w5 = wr) (fun ii _ => ng - (intOf ii).toNat)
              case atStart => exact ⟨0, by omega, rfl, rfl⟩
              case round =>
                obtain ⟨j, hj, rfl, rfl⟩ := hrel
                by_cases hlj : j < ng
                · obtain ⟨bg, og, hAg, -, -, y0⟩ := HRG.out.int hlj
                  subst hAg
                  have hhs := has_any l (Lg.getD j 0) (some ⟨b, off, none⟩) l.length cs w5 (HR3.out.below B5.out) (by omega)
                  have hin := HOG.out j hlj
                  unfold inl at hin
                  rw [hin] at hhs
                  generalize Lg.getD j 0 = g at *
                  have HHS := Lib.hid hhs
                  have j0 : (0 : Int) ≤ (j : Int) := by omega
                  have j1 : (j : Int) < (ng : Int) := by omega
                  clear hhs hin
                  go_wp2_with (go_at_call 34; (with_reducible refine HHS.out.mono ?_); rintro e w6 ⟨rfl, rfl⟩)
                  exact ⟨⟨j + 1, by omega, by go_num, by first | rfl | trivial⟩, by simp [intOf]; omega⟩
                · obtain rfl : ng = j := by omega
                  go_wp2_with fail
                  exact ⟨⟨i + 1, by omega, by go_num, B5.out⟩, by simp [intOf]; omega⟩
            · obtain rfl : l.length = i := by omega
              clear hbl
              go_wp2_with fail
              exact ⟨⟨k + 1, by omega, by go_num, (HTO.out _ HBI.out).1, (HTO.out _ HBI.out).2⟩, by simp [intOf]; omega⟩
      · obtain rfl : k = 6 := by omega
        clear hg ht hq hd hb
        go_wp2_with fail
        refine (awake_any _).mono ?_
        rintro e w9 ⟨rfl, hb9⟩
        have HB9 := Lib.hid (HBR.out.trans (hb9.mono HBR.out.size))
        clear hb9
        go_wp2_with fail
        go_ret
        exact ⟨rfl, HB9.out⟩

/-! ### THE ROW's STEP: WRITTEN OUT: LEAVE IT -/
set_option maxRecDepth 100000 in
theorem lifted (os : Os) (started : os.Started) (H : Type) (enc : TypeId × Value → H) :
    ReturnsInHanded {} Try.checked os 5 .any (Rows.directoryLeastSpec.pre6 enc Try.prog Try.f5 Rows.directoryLeastRow.domain false) (Rows.directoryLeastSpec.post enc Try.prog Try.f5 false true false false) := by
  refine returnsInHanded_of_change (C := Try.checked) own started (by kernel_rfl) Try.func5
    (ChangeSpec.witness6 (enc := enc) (C := Try.checked) false ⟨#[], #[.slice none 0 0], []⟩ 8 (by kernel_rfl) (by kernel_rfl) (by kernel_rfl) (by kernel_rfl)) ?_
  intro W base args ds gs before hval0 hW hcnd _
  have hval : ∀ (j : Nat) t v, Try.f5.params[j]? = some t → args[j]? = some v → Value.okWide Try.prog W .any base t v := hval0
  have hW' := hW
  obtain ⟨p, q, hA0, hV, rfl, hfz, hnd⟩ := hW
  have hA : DataW.TrodAll enc Try.prog W 0 (fun _ => true) true Try.f5.params.toList args.toList ds p := hA0
  rw [Try.params5] at hA hval
  obtain ⟨v0, vs0, d0, ds0, p0, q0, hargs, rfl, rfl, h0, r0⟩ := trodAll_cons hA
  obtain ⟨rfl, rfl, rfl⟩ := trodAll_nil r0
  obtain rfl : args = #[v0] := by cases args; simp_all
  obtain ⟨rfl, rfl⟩ := trodVars_none hV
  obtain ⟨a0, len0, cap0, rfl⟩ := okWide_slice Try.underlying22 (hval 0 22 v0 rfl rfl)
  have k0 := h0
  have lt0 : ∀ x ∈ p0, x.block < W.heap.size := by obtain ⟨m, hm⟩ := k0; exact DataW.trod_lt m _ _ _ hm
  obtain ⟨z0, w0⟩ : ∃ zs, IsRow .i64 W a0 len0 cap0 zs := by
    obtain ⟨fuel, hf⟩ := h0
    rcases open_ints Try.underlying22 Try.underlying3 (by kernel_rfl) hf with ⟨hcs, _⟩ | ⟨x, l, c, zs, hcs, _, hl, hm, hz, _, hcell, hwz⟩
    · simp [Value.cells] at hcs
      obtain ⟨rfl, rfl, rfl⟩ := hcs
      exact ⟨[], .inl ⟨rfl, rfl, rfl, rfl⟩⟩
    · simp [Value.cells] at hcs
      obtain ⟨rfl, rfl, rfl⟩ := hcs
      exact ⟨zs, .inr ⟨_, rfl, hl, hm, by simpa using hz, hcell, hwz⟩⟩
  clear hA0 hval0
  refine (walk a0 len0 cap0 z0 W w0).mono fun e W' ⟨he, bel⟩ => ?_
  subst he
  exact ⟨_, rfl, _, _, _, [], _, [], hW', trodAll_mk1 (shut_bool Try.underlying4 _), (trodAll_cons_mk (Below.trod laidOut (by kernel_rfl) (of_decide_eq_true (by kernel_rfl)) k0 bel lt0) trodAll_mk0), rfl, bel.frame _, fun h => by cases h⟩

theorem over : Rows.directoryLeastRow.holds Try.pinned (OpenSpec.ofChange Rows.directoryLeastSpec) :=
  OpenClaim.holds_of_wide 5 Try.f5 rfl rfl rfl rfl rfl rfl rfl ⟨rfl, rfl, rfl, rfl, rfl⟩ rfl rfl rfl rfl rfl (by kernel_rfl) Try.func5 (by kernel_rfl)
    (of_decide_eq_true (by kernel_rfl)) (by unfold Func.isWrapper; first | (rw [if_pos (by decide +kernel)]; kernel_rfl) | (rw [if_neg (by decide +kernel)]; exact ⟨rfl, rfl⟩))
    (fun os started H enc _ => lifted os started H enc)

/-- ████ THE STATEMENT ████ -/
theorem proved : Rows.DirectoryLeastSaid := over
#print axioms proved
end Go.Proofs.Ytdhofngildjifaa.directoryLeast
