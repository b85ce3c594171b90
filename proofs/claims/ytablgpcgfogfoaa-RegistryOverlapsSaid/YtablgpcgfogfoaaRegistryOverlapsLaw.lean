/-
  The Go function leakresponse/leakresponselaw24.RegistryOverlaps returns true for every list of numbers, and leaves what was there as it was; no conditions.
-/
import Derived.Test.YtablgpcgfogfoaaRgQ
import Derived.Test.YtablgpcgfogfoaaRows
import Derived.WalkKit
import Derived.ProofKit
import Derived.OpenShut
import Derived.ShutString
import Derived.ChangeOld
import Derived.Below
namespace Go.Proofs.Ytablgpcgfogfoaa.registryOverlaps
open Go.ChangeShapes Go.WideShapes Go.ChangeAt Go.RowKit
open Go.ChangeMaps (open_string shut_string)
open Go.Proofs.Ytablgpcgfogfoaa.Tp
open Go.Proofs.Ytablgpcgfogfoaa.Rg
set_option linter.unusedVariables false

theorem val_iff (x : Cr) (t : Nat) : val x t = true ↔ x.f ≤ t ∧ t < x.u := by unfold val; simp
theorem val_no (x : Cr) (t : Nat) : val x t = false ↔ ¬ (x.f ≤ t ∧ t < x.u) := by
  rw [← val_iff]; cases val x t <;> simp
theorem ov_cases (x y : Cr) (t : Nat) : (val x t = true ∧ val y t = true ∧ ovB x y = true ∧ ovF x y ≤ t ∧ t < ovU x y) ∨
    ((val x t = true ∧ val y t = false ∨ val x t = false) ∧ (ovB x y = false ∨ ovB x y = true ∧ ¬ ovF x y ≤ t ∨ ovB x y = true ∧ ovF x y ≤ t ∧ ¬ t < ovU x y)) := by
  unfold ovB ovF ovU
  simp only [val_iff, val_no]
  by_cases hb : max x.f y.f < min x.u y.u
  · simp only [if_pos hb, decide_eq_true hb]
    simp
    omega
  · simp only [if_neg hb, decide_eq_false hb]
    simp
    omega
theorem ovF_comm (x y : Cr) : ovF y x = ovF x y := by unfold ovF; rw [Nat.max_comm, Nat.min_comm]
theorem ovU_comm (x y : Cr) : ovU y x = ovU x y := by unfold ovU; rw [Nat.max_comm, Nat.min_comm]
theorem ovB_comm (x y : Cr) : ovB y x = ovB x y := by unfold ovB; rw [Nat.max_comm, Nat.min_comm]

set_option maxRecDepth 100000 in
set_option maxHeartbeats 4000000 in
theorem walk (a0 : Option Addr) (len0 cap0 : Nat) (z0 : List Int) (w : World) (w0 : IsRow .i64 w a0 len0 cap0 z0) :
    Calls Try.prog 7 #[.slice a0 len0 cap0] w fun e w' => e = .returned (.bool true) ∧ Below w.heap.size w w' := by
  have hm := w0.at_.1
  unfold maxLen at hm
  have HTP := Lib.hid (tape_new w0)
  have HBX := Lib.hid (box_below w (.cells #[.slice a0 len0 cap0, .int .i64 0] 33))
  clear w0
  by_cases hlen : 300 < len0
  · have hl0 : (300 : Int) < (len0 : Int) := by omega
    go_enter Try.func7, Try.ntmps7
    go_wp2_with (go_at_call 9; refine (awake_any _).mono ?_; rintro e w1 ⟨rfl, hb1⟩; have HB1 := Lib.hid hb1; clear hb1)
    go_ret
    exact ⟨rfl, HB1.out⟩
  · have hl0 : (len0 : Int) ≤ (300 : Int) := by omega
    go_enter Try.func7, Try.ntmps7
    go_wp2_with fail
    refine (registry_any w.heap.size _ HTP.out (by simp)).mono ?_
    rintro e w1 ⟨r, v, rfl, hwf, hcr, hi1, hi2, hc7, hrl, hg1, ht1⟩
    have hb1 : Below w.heap.size w w1 := HBX.out.grown hg1 HBX.out.size (fun k e => by cases e; exact Nat.le_refl _)
    have hs1 := hg1.size
    simp at hs1
    have HQ := Lib.hid (heap_alloc_new w1 (.cells (gv r v) 26))
    have HGD := Lib.hid (show Gd (w1.alloc (.cells (gv r v) 26)) (w.heap.size + 1) nmI r v from ⟨(hrl.base (show w.heap.size + 1 ≤ _ by simp)).below (box_below w1 (.cells (gv r v) 26)), nm_I, hwf, hcr⟩)
    have HB1 := Lib.hid (hb1.trans ((box_below w1 (.cells (gv r v) 26)).mono hb1.size))
    have HT1 := Lib.hid (tape_new2 ht1 (.cells (gv r v) 26))
    have HWF := Lib.hid hwf
    have HCR := Lib.hid hcr
    clear hrl hg1 ht1 hb1 hwf hcr
    have lQ : w1.heap.size < (w1.alloc (.cells (gv r v) 26)).heap.size := row_lt HQ.out
    by_cases hc0 : r.c.length = 0
    · have z0 : ((r.c.length : Int) == 0) = true := by simp [hc0]
      obtain ⟨g0, g1⟩ := gvCells HQ.out
      go_wp2_with (first | (with_reducible (show wpList _ _ _ (⟨none, .store 26 (.tmp 4) (.tmp 22), _, _, _, _⟩ :: _) _ _); refine wpList_store_row (o := ⟨none, .store 26 (.tmp 4) (.tmp 22), _, _, _, _⟩) rfl 26 (.tmp 4) (.tmp 22) rfl w1.heap.size (gv r v) rfl rfl 26 zG (heap_alloc_new _ _) (info26 _ _) rfl (gv_one _ _) ?_; rw [new_set]; generalize w1.heap.size = Q at *; generalize w1.alloc (.cells (gv r v) 26) = W1 at *) | (go_at_call 9; refine (awake_any _).mono ?_; rintro e w9 ⟨rfl, hb9⟩; have HB9 := Lib.hid hb9; clear hb9))
      go_ret
      exact ⟨rfl, HB1.out.trans (HB9.out.mono HB1.out.size)⟩
    · have z0 : ((r.c.length : Int) == 0) = false := beq_eq_false_iff_ne.2 (by omega)
      obtain ⟨g0, g1⟩ := gvCells HQ.out
      go_wp2_with (with_reducible (show wpList _ _ _ (⟨none, .store 26 (.tmp 4) (.tmp 22), _, _, _, _⟩ :: _) _ _); refine wpList_store_row (o := ⟨none, .store 26 (.tmp 4) (.tmp 22), _, _, _, _⟩) rfl 26 (.tmp 4) (.tmp 22) rfl w1.heap.size (gv r v) rfl rfl 26 zG (heap_alloc_new _ _) (info26 _ _) rfl (gv_one _ _) ?_; rw [new_set]; generalize w1.heap.size = Q at *; generalize w1.alloc (.cells (gv r v) 26) = W1 at *)
      have hTr : w.heap.size < W1.heap.size := by omega
      have hkk : ∀ w', W1.grownBy w' (some w.heap.size) → TapeOk w' w.heap.size → (w'.cell? ⟨Q, 1, none⟩ = some (.slice v.A2 r.c.length v.c2) ∧ W1.grownBy w' (some w.heap.size) ∧ TapeOk w' w.heap.size) := fun w' hg ht => by
        obtain ⟨k0, k1⟩ := gvCells ((hg.block Q lQ (by simp; omega)).trans HQ.out)
        exact ⟨k1, hg, ht⟩
      have HK := Lib.hid hkk
      have HNX := Lib.hid (fun w' (ht : TapeOk w' w.heap.size) => next_any w.heap.size (r.c.length : Int) w' ht (by omega) (by omega))
      have gd0 : W1.grownBy W1 (some w.heap.size) := gb_row (gb_of_below (Below.refl _ W1))
      have td0 : TapeOk W1 w.heap.size := HT1.out
      have gd : W1.grownBy W1.drew (some w.heap.size) := gb_drewN W1 1 _
      have td : TapeOk W1.drew w.heap.size := HT1.out
      clear hkk
      have mark : 0 = 0 := rfl
      go_region_held3 (fun w' => w'.cell? ⟨Q, 1, none⟩ = some (.slice v.A2 r.c.length v.c2) ∧ W1.grownBy w' (some w.heap.size) ∧ TapeOk w' w.heap.size)
        (first | (with_reducible assumption) | (with_reducible exact HK.out _ gd0 td0) | (with_reducible exact HK.out _ gd td) | (with_reducible exact HK.out _ gn tn))
        (first
          | (go_at_call 12; (with_reducible refine (HNX.out _ ?_).mono ?_); (go_split_ands; with_reducible assumption); clear mark; rintro e wm ⟨zi, a1, b1, rfl, hgn, htn⟩; obtain ⟨i, rfl⟩ : ∃ z : Nat, zi = z := ⟨zi.toNat, by omega⟩; go_split_ands; have gn : W1.grownBy wm (some w.heap.size) := gb_trans (by with_reducible assumption) hgn; have tn := htn; clear hgn htn)
          | (go_at_call 12; (with_reducible refine (HNX.out _ ?_).mono ?_); (go_split_ands; with_reducible assumption); rintro e wn ⟨zj, a2, b2, rfl, hgn, htn⟩; obtain ⟨j, rfl⟩ : ∃ z : Nat, zj = z := ⟨zj.toNat, by omega⟩; go_split_ands; have gn : W1.grownBy wn (some w.heap.size) := gb_trans (by with_reducible assumption) hgn; have tn := htn; clear hgn htn))
      all_goals
        have hi : i < r.c.length := by omega
        have hj : j < r.c.length := by omega
        have Qn := Lib.hid ((gn.block Q lQ (by simp; omega)).trans HQ.out)
        have HGn := Lib.hid (show Gd wn (w.heap.size + 1) nmI r v from ⟨HGD.out.l.grown (row := some w.heap.size) gn (fun g e => by cases e; omega), nm_I, HWF.out, HCR.out⟩)
        have HBn := Lib.hid (HB1.out.grown gn HB1.out.size (fun k e => by cases e; exact Nat.le_refl _))
        go_split_ands
        clear gd td gd0 td0 g0 g1 a1 b1 a2 b2
        have ho1 := fun w' (hw : Below wn.heap.size wn w') => overlap_any (w.heap.size + 1) nmI r v i j w' (HGn.out.below hw) hi hj
        have ho2 := fun w' (hw : Below wn.heap.size wn w') => overlap_any (w.heap.size + 1) nmI r v j i w' (HGn.out.below hw) hj hi
        rw [ovF_comm, ovU_comm, ovB_comm] at ho2
        have hcs := fun t => ov_cases (cg r i) (cg r j) t
        have hv1 := fun t w' (hw : Below wn.heap.size wn w') => valid_any (w.heap.size + 1) nmI r v i t w' (HGn.out.below hw) hi
        have hv2 := fun t w' (hw : Below wn.heap.size wn w') => valid_any (w.heap.size + 1) nmI r v j t w' (HGn.out.below hw) hj
        have hkq := fun w' (hw : Below wn.heap.size wn w') => gvCells ((hw.block Q (row_lt Qn.out)).trans Qn.out)
        obtain ⟨g0, g1⟩ := hkq wn (Below.refl _ _)
        generalize ovF (cg r i) (cg r j) = F at *
        generalize ovU (cg r i) (cg r j) = U at *
        generalize ovB (cg r i) (cg r j) = b at *
        simp only [gv] at ho1 ho2 hv1 hv2
        have HO1 := Lib.hid ho1
        have HO2 := Lib.hid ho2
        have HV1 := Lib.hid hv1
        have HV2 := Lib.hid hv2
        have HKQ := Lib.hid hkq
        have HCS := Lib.hid hcs
        have hbr : Below wn.heap.size wn wn := Below.refl _ _
        clear ho1 ho2 hv1 hv2 hkq hcs gn tn
        go_wp2_with (first
          | (go_at_call 16; (with_reducible refine (HO1.out _ hbr).mono ?_); rintro e wa ⟨rfl, hba⟩; have hbl := hba; clear hba g0 g1; obtain ⟨g0, g1⟩ := HKQ.out _ hbl)
          | (go_at_call 16; (with_reducible refine (HO2.out _ hbl).mono ?_); rintro e wb ⟨rfl, hba⟩; have hbl := hbl.trans (hba.mono hbl.size); have HBb := Lib.hid hbl; clear hba g0 g1))
        clear hbl
        go_loopw [13] (fun tt wr => ∃ t : Nat, t ≤ 40 ∧ tt = .int .i64 t ∧ Below wn.heap.size wn wr) (fun tt _ => 40 - (intOf tt).toNat)
        case atStart => exact ⟨0, by omega, rfl, HBb.out⟩
        case round =>
          obtain ⟨t, ht, rfl, hbl⟩ := hrel
          obtain ⟨g0, g1⟩ := HKQ.out _ hbl
          by_cases hlt : t < 40
          · have t3 : (t : Int) < 40 := by omega
            have hw1 := HV1.out t
            have hw2 := HV2.out t
            have hcc := HCS.out t
            generalize val (cg r i) t = vx at *
            generalize val (cg r j) t = vy at *
            have HW1 := Lib.hid hw1
            have HW2 := Lib.hid hw2
            clear hw1 hw2
            rcases hcc with ⟨rfl, rfl, rfl, h1, h2⟩ | ⟨⟨rfl, rfl⟩ | rfl, rfl | ⟨rfl, h1⟩ | ⟨rfl, h1, h2⟩⟩
            all_goals
              (try have h1' : (F : Int) ≤ (t : Int) := by omega)
              (try have h1' : ¬ (F : Int) ≤ (t : Int) := by omega)
              (try have h2' : (t : Int) < (U : Int) := by omega)
              (try have h2' : ¬ (t : Int) < (U : Int) := by omega)
              go_wp2_with (first
                | (go_at_call 18; (with_reducible refine (HW1.out _ hbl).mono ?_); rintro e wa ⟨rfl, hba⟩; have hbl := hbl.trans (hba.mono hbl.size); clear hba g0 g1; obtain ⟨g0, g1⟩ := HKQ.out _ hbl)
                | (go_at_call 18; (with_reducible refine (HW2.out _ hbl).mono ?_); rintro e wb ⟨rfl, hba⟩; have hbl := hbl.trans (hba.mono hbl.size); clear hba g0 g1))
              exact ⟨⟨t + 1, by omega, by go_num, hbl⟩, by simp [intOf]; omega⟩
          · obtain rfl : t = 40 := by omega
            have HBL := Lib.hid hbl
            clear hbl
            go_wp2_with (go_at_call 9; refine (awake_any _).mono ?_; rintro e w9 ⟨rfl, hb9⟩; have HB9 := Lib.hid hb9; clear hb9)
            go_ret
            exact ⟨rfl, (HBn.out.trans (HBL.out.mono HBn.out.size)).trans (HB9.out.mono (HBn.out.trans (HBL.out.mono HBn.out.size)).size)⟩

/-! ### THE ROW's STEP: WRITTEN OUT: LEAVE IT -/
set_option maxRecDepth 100000 in
theorem lifted (os : Os) (started : os.Started) (H : Type) (enc : TypeId × Value → H) :
    ReturnsInHanded {} Try.checked os 7 .any (Rows.registryOverlapsSpec.pre6 enc Try.prog Try.f7 Rows.registryOverlapsRow.domain false) (Rows.registryOverlapsSpec.post enc Try.prog Try.f7 false true false false) := by
  refine returnsInHanded_of_change (C := Try.checked) own started (by kernel_rfl) Try.func7
    (ChangeSpec.witness6 (enc := enc) (C := Try.checked) false ⟨#[], #[.slice none 0 0], []⟩ 8 (by kernel_rfl) (by kernel_rfl) (by kernel_rfl) (by kernel_rfl)) ?_
  intro W base args ds gs before hval0 hW hcnd _
  have hval : ∀ (j : Nat) t v, Try.f7.params[j]? = some t → args[j]? = some v → Value.okWide Try.prog W .any base t v := hval0
  have hW' := hW
  obtain ⟨p, q, hA0, hV, rfl, hfz, hnd⟩ := hW
  have hA : DataW.TrodAll enc Try.prog W 0 (fun _ => true) true Try.f7.params.toList args.toList ds p := hA0
  rw [Try.params7] at hA hval
  obtain ⟨v0, vs0, d0, ds0, p0, q0, hargs, rfl, rfl, h0, r0⟩ := trodAll_cons hA
  obtain ⟨rfl, rfl, rfl⟩ := trodAll_nil r0
  obtain rfl : args = #[v0] := by cases args; simp_all
  obtain ⟨rfl, rfl⟩ := trodVars_none hV
  obtain ⟨a0, len0, cap0, rfl⟩ := okWide_slice Try.underlying22 (hval 0 22 v0 rfl rfl)
  have k0 := h0
  have lt0 : ∀ x ∈ p0, x.block < W.heap.size := by obtain ⟨m, hm⟩ := k0; exact DataW.trod_lt m _ _ _ hm
  obtain ⟨z0, w0⟩ : ∃ zs, IsRow .i64 W a0 len0 cap0 zs := by
    obtain ⟨fuel, hf⟩ := h0
    rcases open_ints Try.underlying22 Try.underlying3 (by kernel_rfl) hf with ⟨hcs, _⟩ | ⟨x, l, c, zs, hcs, _, hl, hm, hz, _, hcell, hwz⟩
    · simp [Value.cells] at hcs
      obtain ⟨rfl, rfl, rfl⟩ := hcs
      exact ⟨[], .inl ⟨rfl, rfl, rfl, rfl⟩⟩
    · simp [Value.cells] at hcs
      obtain ⟨rfl, rfl, rfl⟩ := hcs
      exact ⟨zs, .inr ⟨_, rfl, hl, hm, by simpa using hz, hcell, hwz⟩⟩
  clear hA0 hval0
  refine (walk a0 len0 cap0 z0 W w0).mono fun e W' ⟨he, bel⟩ => ?_
  subst he
  exact ⟨_, rfl, _, _, _, [], _, [], hW', trodAll_mk1 (shut_bool Try.underlying4 _), (trodAll_cons_mk (Below.trod laidOut (by kernel_rfl) (of_decide_eq_true (by kernel_rfl)) k0 bel lt0) trodAll_mk0), rfl, bel.frame _, fun h => by cases h⟩

theorem over : Rows.registryOverlapsRow.holds Try.pinned (OpenSpec.ofChange Rows.registryOverlapsSpec) :=
  OpenClaim.holds_of_wide 7 Try.f7 rfl rfl rfl rfl rfl rfl rfl ⟨rfl, rfl, rfl, rfl, rfl⟩ rfl rfl rfl rfl rfl (by kernel_rfl) Try.func7 (by kernel_rfl)
    (of_decide_eq_true (by kernel_rfl)) (by unfold Func.isWrapper; first | (rw [if_pos (by decide +kernel)]; kernel_rfl) | (rw [if_neg (by decide +kernel)]; exact ⟨rfl, rfl⟩))
    (fun os started H enc _ => lifted os started H enc)

/-- ████ THE STATEMENT ████ -/
theorem proved : Rows.RegistryOverlapsSaid := over
#print axioms proved
end Go.Proofs.Ytablgpcgfogfoaa.registryOverlaps
