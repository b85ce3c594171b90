/-
  The Go function leakresponse/leakresponselaw24.RegistrySlots returns true for every list of numbers, and leaves what was there as it was; no conditions.
-/
import Derived.Test.YtablgpcgfogfoaaRgN
import Derived.Test.YtablgpcgfogfoaaRows
import Derived.WalkKit
import Derived.ProofKit
import Derived.OpenShut
import Derived.ShutString
import Derived.ChangeOld
import Derived.Below
namespace Go.Proofs.Ytablgpcgfogfoaa.registrySlots
open Go.ChangeShapes Go.WideShapes Go.ChangeAt Go.RowKit
open Go.ChangeMaps (open_string shut_string)
open Go.Proofs.Ytablgpcgfogfoaa.Tp
open Go.Proofs.Ytablgpcgfogfoaa.Rg
set_option linter.unusedVariables false

set_option maxRecDepth 100000 in
set_option maxHeartbeats 4000000 in
theorem walk (a0 : Option Addr) (len0 cap0 : Nat) (z0 : List Int) (w : World) (w0 : IsRow .i64 w a0 len0 cap0 z0) :
    Calls Try.prog 4 #[.slice a0 len0 cap0] w fun e w' => e = .returned (.bool true) ∧ Below w.heap.size w w' := by
  have hm := w0.at_.1
  unfold maxLen at hm
  have HTP := Lib.hid (tape_new w0)
  have HBX := Lib.hid (box_below w (.cells #[.slice a0 len0 cap0, .int .i64 0] 33))
  clear w0
  by_cases hlen : 300 < len0
  · have hl0 : (300 : Int) < (len0 : Int) := by omega
    go_enter Try.func4, Try.ntmps4
    go_wp2_with (go_at_call 9; refine (awake_any _).mono ?_; rintro e w1 ⟨rfl, hb1⟩; have HB1 := Lib.hid hb1; clear hb1)
    go_ret
    exact ⟨rfl, HB1.out⟩
  · have hl0 : (len0 : Int) ≤ (300 : Int) := by omega
    go_enter Try.func4, Try.ntmps4
    go_wp2_with fail
    refine (registry_any w.heap.size _ HTP.out (by simp)).mono ?_
    rintro e w1 ⟨r, v, rfl, hwf, hcr, hi1, hi2, hc7, hrl, hg1, ht1⟩
    have hb1 : Below w.heap.size w w1 := HBX.out.grown hg1 HBX.out.size (fun k e => by cases e; exact Nat.le_refl _)
    have hs1 := hg1.size
    simp at hs1
    have HQ := Lib.hid (heap_alloc_new w1 (.cells (gv r v) 26))
    have HGD := Lib.hid (show Gd (w1.alloc (.cells (gv r v) 26)) (w.heap.size + 1) nmI r v from ⟨(hrl.base (show w.heap.size + 1 ≤ _ by simp)).below (box_below w1 (.cells (gv r v) 26)), nm_I, hwf, hcr⟩)
    have HB1 := Lib.hid (hb1.trans ((box_below w1 (.cells (gv r v) 26)).mono hb1.size))
    have HT1 := Lib.hid (tape_new2 ht1 (.cells (gv r v) 26))
    have HWF := Lib.hid hwf
    have HCR := Lib.hid hcr
    clear hrl hg1 ht1 hb1 hwf hcr
    obtain ⟨g0, g1⟩ := gvCells HQ.out
    go_wp2_with (with_reducible (show wpList _ _ _ (⟨none, .store 26 (.tmp 4) (.tmp 18), _, _, _, _⟩ :: _) _ _); refine wpList_store_row (o := ⟨none, .store 26 (.tmp 4) (.tmp 18), _, _, _, _⟩) rfl 26 (.tmp 4) (.tmp 18) rfl w1.heap.size (gv r v) rfl rfl 26 zG (heap_alloc_new _ _) (info26 _ _) rfl (gv_one _ _) ?_; rw [new_set])
    have lQ : w1.heap.size < (w1.alloc (.cells (gv r v) 26)).heap.size := row_lt HQ.out
    generalize w1.heap.size = Q at *
    generalize w1.alloc (.cells (gv r v) 26) = W1 at *
    clear g0 g1
    go_loopw [22] (fun ii wr => ∃ k : Nat, k ≤ r.s.length ∧ ii = .int .i64 k ∧ Below W1.heap.size W1 wr) (fun ii _ => r.s.length - (intOf ii).toNat)
    case atStart => exact ⟨0, by omega, rfl, Below.refl _ _⟩
    case round =>
      obtain ⟨k, hk, rfl, hbl⟩ := hrel
      have HBL := Lib.hid hbl
      have QK := Lib.hid ((hbl.block Q (row_lt HQ.out)).trans HQ.out)
      have HGK := Lib.hid (HGD.out.below hbl)
      have HBK := Lib.hid (HB1.out.trans (hbl.mono HB1.out.size))
      clear hbl
      by_cases hlt : k < r.s.length
      · obtain ⟨b, off, hA, -, hbk, y0, y1⟩ := HGK.out.l.r1.iss hlt
        have hK : r.s.getD k 0 = sl r k := rfl
        rw [hK] at y1
        clear hK
        unfold nmI at y0
        have hle : ∀ h t, hc r k h t ≤ sl r k := fun h t => hc_le HCR.out k h t
        have hs2 := (HWF.out.s k hlt).2
        have HLE := Lib.hid hle
        clear hle
        have hslk : ∃ s, s = sl r k := ⟨_, rfl⟩
        obtain ⟨s, hs⟩ := hslk
        rw [← hs] at y1 hs2
        have HS := Lib.hid hs
        clear hs
        have j0 : (0 : Int) ≤ (k : Int) := by omega
        have j1 : (k : Int) < (r.s.length : Int) := by omega
        have hbx := box_below wr (.cells #[.string ⟨#[105, 115, 115, 117, 101, 114]⟩, .int .i64 (s : Int)] 60)
        have NX := Lib.hid (heap_alloc_new wr (.cells #[.string ⟨#[105, 115, 115, 117, 101, 114]⟩, .int .i64 (s : Int)] 60))
        have QX := Lib.hid ((hbx.block Q (row_lt QK.out)).trans QK.out)
        have HGX := Lib.hid (HGK.out.below hbx)
        have HBX2 := Lib.hid (HBL.out.trans (hbx.mono HBL.out.size))
        rw [hA]
        clear hA hbx
        go_wp2_with fail
        clear y0 y1
        generalize wr.heap.size = N at *
        generalize wr.alloc (.cells #[.string ⟨#[105, 115, 115, 117, 101, 114]⟩, .int .i64 (s : Int)] 60) = W2 at *
        go_loopw [7] (fun hh wh => ∃ h : Nat, h ≤ 3 ∧ hh = .int .i64 h ∧ Below W2.heap.size W2 wh) (fun hh _ => 3 - (intOf hh).toNat)
        case atStart => exact ⟨0, by omega, rfl, Below.refl _ _⟩
        case round =>
          obtain ⟨h, hh3, rfl, hbh⟩ := hrel
          have HBH := Lib.hid hbh
          clear hbh
          by_cases hlh : h < 3
          · have h3 : (h : Int) < 3 := by omega
            go_wp2_with fail
            go_loopw [8] (fun tt wt => ∃ t : Nat, t ≤ 34 ∧ tt = .int .i64 t ∧ Below W2.heap.size W2 wt) (fun tt _ => 34 - (intOf tt).toNat)
            case atStart => exact ⟨0, by omega, rfl, HBH.out⟩
            case round =>
              obtain ⟨t, ht34, rfl, hbt⟩ := hrel
              have HBT := Lib.hid hbt
              have QT := Lib.hid ((hbt.block Q (row_lt QX.out)).trans QX.out)
              have NT := Lib.hid ((hbt.block N (row_lt NX.out)).trans NX.out)
              have HGT := Lib.hid (HGX.out.below hbt)
              clear hbt
              by_cases hlt2 : t < 34
              · have t3 : (t : Int) < 34 := by omega
                have hns : hc r k h t ≤ s := by rw [HS.out]; exact HLE.out h t
                have hHD := Held_any _ nmI r v k h t wr HGT.out
                have hRM := fun w' (hw : Below wr.heap.size wr w') => room_any _ nmI r v k h t w' (HGT.out.below hw) hlt
                unfold HdPost at hHD
                rw [← HS.out] at hRM
                generalize hc r k h t = n at *
                simp only [gv] at hHD hRM
                have HHD := Lib.hid hHD
                have HRM := Lib.hid hRM
                clear hHD hRM
                obtain ⟨g0, g1⟩ := gvCells QT.out
                go_wp2_with fail
                refine HHD.out.mono ?_
                rintro e w5 ⟨A, cc, rfl, -, hb5⟩
                have Q5 := Lib.hid ((hb5.block Q (row_lt QT.out)).trans QT.out)
                have N5 := Lib.hid ((hb5.block N (row_lt NT.out)).trans NT.out)
                have HB5 := Lib.hid hb5
                clear hb5 g0 g1
                have hk5 : ∀ w', Below w5.heap.size w5 w' → (w'.cell? ⟨Q, 0, none⟩ = some (.slice v.A1 r.s.length v.c1) ∧ w'.cell? ⟨Q, 1, none⟩ = some (.slice v.A2 r.c.length v.c2) ∧ w'.cell? ⟨N, 1, none⟩ = some (.int .i64 (s : Int)) ∧ Below wr.heap.size wr w' ∧ Below w5.heap.size w5 w') := fun w' hw => by
                  obtain ⟨k0, k1⟩ := gvCells ((hw.block Q (row_lt Q5.out)).trans Q5.out)
                  have k2 : w'.cell? ⟨N, 1, none⟩ = some (.int .i64 (s : Int)) := cell_of_row _ _ 1 _ _ _ ((hw.block N (row_lt N5.out)).trans N5.out)
                  exact ⟨k0, k1, k2, HB5.out.trans (hw.mono HB5.out.size), hw⟩
                have HK5 := Lib.hid hk5
                clear hk5
                have hbr : Below w5.heap.size w5 w5 := Below.refl _ _
                have hbd : Below w5.heap.size w5 w5.drew := hbr.drew
                have q0 : decide ((s : Int) < (n : Int)) = false := decide_eq_false (by omega)
                have q1 : ¬ s < n := by omega
                have q2 : (n : Int) + ((s : Int) - (n : Int)) = (s : Int) := by omega
                have q3 : IntKind.i64.wrap (s : Int) = (s : Int) := IntWalk.i64_in _ (by omega)
                go_wp2_with fail
                go_region_held3 (fun w' => w'.cell? ⟨Q, 0, none⟩ = some (.slice v.A1 r.s.length v.c1) ∧ w'.cell? ⟨Q, 1, none⟩ = some (.slice v.A2 r.c.length v.c2) ∧ w'.cell? ⟨N, 1, none⟩ = some (.int .i64 (s : Int)) ∧ Below wr.heap.size wr w' ∧ Below w5.heap.size w5 w')
                  (first | (with_reducible assumption) | (with_reducible exact HK5.out _ hbr) | (with_reducible exact HK5.out _ hbd) | (go_split_ands; exact HK5.out _ (Below.trans (by with_reducible assumption) (hb2.mono (Below.size (by with_reducible assumption))))))
                  (first
                    | (go_at_call 23; (with_reducible refine (HRM.out _ ?_).mono ?_); (go_split_ands; with_reducible assumption); rintro e w2 ⟨rfl, hb2⟩))
                go_wp2_with fail
                go_split_ands
                rename_i hf1 hf2
                exact ⟨⟨t + 1, by omega, by go_num, HBT.out.trans (hf1.mono HBT.out.size)⟩, by simp [intOf]; omega⟩
              · obtain rfl : t = 34 := by omega
                go_wp2_with fail
                exact ⟨⟨h + 1, by omega, by go_num, HBT.out⟩, by simp [intOf]; omega⟩
          · obtain rfl : h = 3 := by omega
            go_wp2_with fail
            exact ⟨⟨k + 1, by omega, by go_num, HBX2.out.trans (HBH.out.mono HBX2.out.size)⟩, by simp [intOf]; omega⟩
      · obtain rfl : k = r.s.length := by omega
        go_wp2_with fail
        refine (awake_any _).mono ?_
        rintro e w9 ⟨rfl, hb9⟩
        have HB9 := Lib.hid (HBK.out.trans (hb9.mono HBK.out.size))
        clear hb9
        go_wp2_with fail
        go_ret
        exact ⟨rfl, HB9.out⟩

/-! ### THE ROW's STEP: WRITTEN OUT: LEAVE IT -/
set_option maxRecDepth 100000 in
theorem lifted (os : Os) (started : os.Started) (H : Type) (enc : TypeId × Value → H) :
    ReturnsInHanded {} Try.checked os 4 .any (Rows.registrySlotsSpec.pre6 enc Try.prog Try.f4 Rows.registrySlotsRow.domain false) (Rows.registrySlotsSpec.post enc Try.prog Try.f4 false true false false) := by
  refine returnsInHanded_of_change (C := Try.checked) own started (by kernel_rfl) Try.func4
    (ChangeSpec.witness6 (enc := enc) (C := Try.checked) false ⟨#[], #[.slice none 0 0], []⟩ 8 (by kernel_rfl) (by kernel_rfl) (by kernel_rfl) (by kernel_rfl)) ?_
  intro W base args ds gs before hval0 hW hcnd _
  have hval : ∀ (j : Nat) t v, Try.f4.params[j]? = some t → args[j]? = some v → Value.okWide Try.prog W .any base t v := hval0
  have hW' := hW
  obtain ⟨p, q, hA0, hV, rfl, hfz, hnd⟩ := hW
  have hA : DataW.TrodAll enc Try.prog W 0 (fun _ => true) true Try.f4.params.toList args.toList ds p := hA0
  rw [Try.params4] at hA hval
  obtain ⟨v0, vs0, d0, ds0, p0, q0, hargs, rfl, rfl, h0, r0⟩ := trodAll_cons hA
  obtain ⟨rfl, rfl, rfl⟩ := trodAll_nil r0
  obtain rfl : args = #[v0] := by cases args; simp_all
  obtain ⟨rfl, rfl⟩ := trodVars_none hV
  obtain ⟨a0, len0, cap0, rfl⟩ := okWide_slice Try.underlying22 (hval 0 22 v0 rfl rfl)
  have k0 := h0
  have lt0 : ∀ x ∈ p0, x.block < W.heap.size := by obtain ⟨m, hm⟩ := k0; exact DataW.trod_lt m _ _ _ hm
  obtain ⟨z0, w0⟩ : ∃ zs, IsRow .i64 W a0 len0 cap0 zs := by
    obtain ⟨fuel, hf⟩ := h0
    rcases open_ints Try.underlying22 Try.underlying3 (by kernel_rfl) hf with ⟨hcs, _⟩ | ⟨x, l, c, zs, hcs, _, hl, hm, hz, _, hcell, hwz⟩
    · simp [Value.cells] at hcs
      obtain ⟨rfl, rfl, rfl⟩ := hcs
      exact ⟨[], .inl ⟨rfl, rfl, rfl, rfl⟩⟩
    · simp [Value.cells] at hcs
      obtain ⟨rfl, rfl, rfl⟩ := hcs
      exact ⟨zs, .inr ⟨_, rfl, hl, hm, by simpa using hz, hcell, hwz⟩⟩
  clear hA0 hval0
  refine (walk a0 len0 cap0 z0 W w0).mono fun e W' ⟨he, bel⟩ => ?_
  subst he
  exact ⟨_, rfl, _, _, _, [], _, [], hW', trodAll_mk1 (shut_bool Try.underlying4 _), (trodAll_cons_mk (Below.trod laidOut (by kernel_rfl) (of_decide_eq_true (by kernel_rfl)) k0 bel lt0) trodAll_mk0), rfl, bel.frame _, fun h => by cases h⟩

theorem over : Rows.registrySlotsRow.holds Try.pinned (OpenSpec.ofChange Rows.registrySlotsSpec) :=
  OpenClaim.holds_of_wide 4 Try.f4 rfl rfl rfl rfl rfl rfl rfl ⟨rfl, rfl, rfl, rfl, rfl⟩ rfl rfl rfl rfl rfl (by kernel_rfl) Try.func4 (by kernel_rfl)
    (of_decide_eq_true (by kernel_rfl)) (by unfold Func.isWrapper; first | (rw [if_pos (by decide +kernel)]; kernel_rfl) | (rw [if_neg (by decide +kernel)]; exact ⟨rfl, rfl⟩))
    (fun os started H enc _ => lifted os started H enc)

/-- ████ THE STATEMENT ████ -/
theorem proved : Rows.RegistrySlotsSaid := over
#print axioms proved
end Go.Proofs.Ytablgpcgfogfoaa.registrySlots
