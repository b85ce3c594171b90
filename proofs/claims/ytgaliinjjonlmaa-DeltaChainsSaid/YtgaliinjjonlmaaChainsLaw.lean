/-
  The Go function leakresponselaw12.DeltaChains returns true for every list of numbers, and leaves what was there as it was; no conditions.
-/
import Derived.Test.YtgaliinjjonlmaaDtFrame
import Derived.Test.YtgaliinjjonlmaaRows
import Derived.WalkKit
import Derived.ProofKit
import Derived.OpenShut
import Derived.ShutString
import Derived.ChangeOld
import Derived.Below
namespace Go.Proofs.Ytgaliinjjonlmaa.deltaChains
open Go.ChangeShapes Go.WideShapes Go.ChangeAt Go.RowKit
open Go.ChangeMaps (open_string shut_string)
open Go.Proofs.Ytgaliinjjonlmaa.Tp
open Go.Proofs.Ytgaliinjjonlmaa.Dt
set_option linter.unusedVariables false

/-- What Make has made is applied. -/
theorem made_applies {A B X : Option Addr} {k c N cb : Nat} {os : List O} {vs : List Value} {a b : List Nat} {w : World} (hl : OLies w A k os vs) (hv : ∀ j, j < k → VO a.length (os.getD j o0) (vs.getD j undef)) (hk : k ≤ 3) (ha : apl a os k = b) (hb : b.length ≤ 1000)
    (hby : By w (.slice B N cb) a) (hN : a.length = N) (hN2 : N ≤ 1000) : Calls Try.prog 20 #[.slice B N cb, .slice A k c] w (ARes w b) := by
  have ht : tot os k = b.length := by
    rw [← ha]
    exact (apl_len a os k (fun j hj => vo_ok (hv j hj) (hl.by_ j hj))).symm
  have := apply_any A B k c N cb a os vs w hl (by rw [← hN]; exact hv) (by omega) (by omega) (by omega) hby hN
  rw [ha] at this
  exact this

theorem ares_by {w w' : World} {bs : List Nat} {e : Ending} (h : ARes w bs e w') (hb : ∀ b ∈ bs, b ≤ 255) : ∃ A c, e = .returned (.tuple #[.slice A bs.length c, .int .i64 0]) ∧ By w' (.slice A bs.length c) bs ∧ Below w.heap.size w w' := by
  obtain ⟨v, rfl, hrow, hbl⟩ := h
  have hby := (by_own hrow rfl hb).1
  obtain ⟨A, c, e⟩ := hby.form
  subst e
  exact ⟨A, c, rfl, hby, hbl⟩

set_option maxRecDepth 100000 in
set_option maxHeartbeats 4000000 in
theorem walk (a0 : Option Addr) (len0 cap0 : Nat) (z0 : List Int) (w : World) (w0 : IsRow .i64 w a0 len0 cap0 z0) :
    Calls Try.prog 8 #[.slice a0 len0 cap0] w fun e w' => e = .returned (.bool true) ∧ Below w.heap.size w w' := by
  have htp := tape_new w0
  have HTP := Lib.hid htp
  have HBX := Lib.hid (box_below w (.cells #[.slice a0 len0 cap0, .int .i64 0] 27))
  clear w0 htp
  go_enter Try.func8, Try.ntmps8
  go_wp2_with fail
  refine (next_any w.heap.size 20 _ HTP.out (by omega) (by omega)).mono ?_
  rintro e w1 ⟨x, hx0, hx1, rfl, hg1, ht1⟩
  obtain ⟨n1, rfl⟩ : ∃ m : Nat, x = m := ⟨x.toNat, by omega⟩
  have hs1 := hg1.size
  simp at hs1
  have HG1 := Lib.hid hg1
  have HT1 := Lib.hid ht1
  clear hg1 ht1
  go_wp2_with fail
  refine (bytes_any w.heap.size n1 _ HT1.out (by omega) (by omega)).mono ?_
  rintro e w2 ⟨v, rfl, hrel⟩
  obtain ⟨a, A, ca, rfl, hla, hbya, hfa, hg2, ht2⟩ := made_by hrel (by omega)
  have hs2 := hg2.size
  have HBA := Lib.hid hbya
  have HFA : Hid (∀ x, A = some x → w.heap.size < x.block) := Lib.hid (fun x e => by have := hfa x e; omega)
  have HLA := Lib.hid hla
  have HG2 := Lib.hid (gb_trans HG1.out hg2)
  have HT2 := Lib.hid ht2
  clear hrel hla hbya hfa hg2 ht2
  go_wp2_with fail
  refine (next_any w.heap.size 20 _ HT2.out (by omega) (by omega)).mono ?_
  rintro e w3 ⟨x, hy0, hy1, rfl, hg3, ht3⟩
  obtain ⟨n2, rfl⟩ : ∃ m : Nat, x = m := ⟨x.toNat, by omega⟩
  have hs3 := hg3.size
  have HBA3 := Lib.hid (HBA.out.tape HFA.out hg3)
  have HG3 := Lib.hid (gb_trans HG2.out hg3)
  have HT3 := Lib.hid ht3
  clear hg3 ht3
  go_wp2_with fail
  refine (bytes_any w.heap.size n2 _ HT3.out (by omega) (by omega)).mono ?_
  rintro e w4 ⟨v, rfl, hrel⟩
  obtain ⟨b, B, cb, rfl, hlb, hbyb, hfb, hg4, ht4⟩ := made_by hrel (by omega)
  have hs4 := hg4.size
  have HBA4 := Lib.hid (HBA3.out.tape HFA.out hg4)
  have HBB := Lib.hid hbyb
  have HFB : Hid (∀ x, B = some x → w.heap.size < x.block) := Lib.hid (fun x e => by have := hfb x e; omega)
  have HLB := Lib.hid hlb
  have HG4 := Lib.hid (gb_trans HG3.out hg4)
  have HT4 := Lib.hid ht4
  clear hrel hlb hbyb hfb hg4 ht4
  go_wp2_with fail
  refine (next_any w.heap.size 20 _ HT4.out (by omega) (by omega)).mono ?_
  rintro e w5 ⟨x, hz0, hz1, rfl, hg5, ht5⟩
  obtain ⟨n3, rfl⟩ : ∃ m : Nat, x = m := ⟨x.toNat, by omega⟩
  have hs5 := hg5.size
  have HBA5 := Lib.hid (HBA4.out.tape HFA.out hg5)
  have HBB5 := Lib.hid (HBB.out.tape HFB.out hg5)
  have HG5 := Lib.hid (gb_trans HG4.out hg5)
  have HT5 := Lib.hid ht5
  clear hg5 ht5
  go_wp2_with fail
  refine (bytes_any w.heap.size n3 _ HT5.out (by omega) (by omega)).mono ?_
  rintro e w6 ⟨v, rfl, hrel⟩
  obtain ⟨c, C, cc, rfl, hlc, hbyc, hfc, hg6, ht6⟩ := made_by hrel (by omega)
  have HA6 := Lib.hid (HBA5.out.tape HFA.out hg6)
  have HB6 := Lib.hid (HBB5.out.tape HFB.out hg6)
  have HC6 := Lib.hid hbyc
  have HLC := Lib.hid hlc
  have hb6 : Below w.heap.size w w6 := HBX.out.grown (gb_trans HG5.out hg6) HBX.out.size (fun k e => by cases e; exact Nat.le_refl _)
  have HBL6 := Lib.hid hb6
  have HMK1 := Lib.hid (make_any A B n1 n2 ca cb a b w6 HA6.out HB6.out HLA.out HLB.out (by omega) (by omega))
  have HMK2 := Lib.hid (fun w' (hw : Below w6.heap.size w6 w') => make_any B C n2 n3 cb cc b c w' (HB6.out.below hw) (HC6.out.below hw) HLB.out HLC.out (by omega) (by omega))
  clear hrel hlc hbyc hfc hg6 ht6 hb6 HBA HBA3 HBA4 HBA5 HBB HBB5 HT1 HT2 HT3 HT4 HT5 HG1 HG2 HG3 HG4 HG5 HTP HFA HFB
  go_wp2_with fail
  refine HMK1.out.mono ?_
  rintro e w7 ⟨L, kl, cl, os, vs, rfl, hol, hvo, hk, hap, hb7⟩
  have HOL := Lib.hid hol
  have HVO := Lib.hid hvo
  have HAP := Lib.hid hap
  have HB7 := Lib.hid hb7
  clear hol hvo hap hb7
  go_wp2_with fail
  refine (HMK2.out _ HB7.out).mono ?_
  rintro e w8 ⟨Mm, km, cm, os2, vs2, rfl, hol2, hvo2, hk2, hap2, hb8⟩
  have HB8 := Lib.hid (HB7.out.trans (hb8.mono HB7.out.size))
  have HOL2 := Lib.hid hol2
  have HVO2 := Lib.hid hvo2
  have HAP2 := Lib.hid hap2
  have HA1 := Lib.hid (made_applies (X := A) (c := cl) (HOL.out.below hb8) HVO.out hk HAP.out (by rw [HLB.out]; omega) (HA6.out.below HB8.out) HLA.out (by omega))
  clear hol2 hvo2 hap2 hb8
  go_wp2_with fail
  refine HA1.out.mono ?_
  rintro e w9 hres
  obtain ⟨X, cx, rfl, hbyx, hb9⟩ := ares_by hres HB6.out.1
  have HB9 := Lib.hid (HB8.out.trans (hb9.mono HB8.out.size))
  have HX := Lib.hid hbyx
  have HA2 := Lib.hid (made_applies (X := X) (c := cm) (HOL2.out.below hb9) HVO2.out hk2 HAP2.out (by rw [HLC.out]; omega) hbyx rfl (by rw [HLB.out]; omega))
  clear hres hbyx hb9
  go_wp2_with fail
  refine HA2.out.mono ?_
  rintro e w10 hres
  obtain ⟨Y, cy, rfl, hbyy, hb10⟩ := ares_by hres HC6.out.1
  have HB10 := Lib.hid (HB9.out.trans (hb10.mono HB9.out.size))
  have q1 := conv_by (HX.out.below hb10)
  have q2 := conv_by (HB6.out.below HB10.out)
  have q3 := conv_by hbyy
  have q4 := conv_by (HC6.out.below HB10.out)
  clear hres hbyy hb10
  generalize strB b = S1 at *
  generalize strB c = S2 at *
  go_wp2_with (go_at_call 23; refine (awake_any _).mono ?_; rintro e w11 ⟨rfl, hb11⟩; have HB11 := Lib.hid (HBL6.out.trans ((HB10.out.trans (hb11.mono HB10.out.size)).mono HBL6.out.size)); clear hb11)
  go_ret
  exact ⟨rfl, HB11.out⟩

/-! ### THE ROW's STEP: WRITTEN OUT: LEAVE IT -/
set_option maxRecDepth 100000 in
theorem lifted (os : Os) (started : os.Started) (H : Type) (enc : TypeId × Value → H) :
    ReturnsInHanded {} Try.checked os 8 .any (Rows.deltaChainsSpec.pre6 enc Try.prog Try.f8 Rows.deltaChainsRow.domain false) (Rows.deltaChainsSpec.post enc Try.prog Try.f8 false true false false) := by
  refine returnsInHanded_of_change (C := Try.checked) own started (by kernel_rfl) Try.func8
    (ChangeSpec.witness6 (enc := enc) (C := Try.checked) false ⟨#[], #[.slice none 0 0], []⟩ 8 (by kernel_rfl) (by kernel_rfl) (by kernel_rfl) (by kernel_rfl)) ?_
  intro W base args ds gs before hval0 hW hcnd _
  have hval : ∀ (j : Nat) t v, Try.f8.params[j]? = some t → args[j]? = some v → Value.okWide Try.prog W .any base t v := hval0
  have hW' := hW
  obtain ⟨p, q, hA0, hV, rfl, hfz, hnd⟩ := hW
  have hA : DataW.TrodAll enc Try.prog W 0 (fun _ => true) true Try.f8.params.toList args.toList ds p := hA0
  rw [Try.params8] at hA hval
  obtain ⟨v0, vs0, d0, ds0, p0, q0, hargs, rfl, rfl, h0, r0⟩ := trodAll_cons hA
  obtain ⟨rfl, rfl, rfl⟩ := trodAll_nil r0
  obtain rfl : args = #[v0] := by cases args; simp_all
  obtain ⟨rfl, rfl⟩ := trodVars_none hV
  obtain ⟨a0, len0, cap0, rfl⟩ := okWide_slice Try.underlying22 (hval 0 22 v0 rfl rfl)
  have k0 := h0
  have lt0 : ∀ x ∈ p0, x.block < W.heap.size := by obtain ⟨m, hm⟩ := k0; exact DataW.trod_lt m _ _ _ hm
  obtain ⟨z0, w0⟩ : ∃ zs, IsRow .i64 W a0 len0 cap0 zs := by
    obtain ⟨fuel, hf⟩ := h0
    rcases open_ints Try.underlying22 Try.underlying3 (by kernel_rfl) hf with ⟨hcs, _⟩ | ⟨x, l, c, zs, hcs, _, hl, hm, hz, _, hcell, hwz⟩
    · simp [Value.cells] at hcs
      obtain ⟨rfl, rfl, rfl⟩ := hcs
      exact ⟨[], .inl ⟨rfl, rfl, rfl, rfl⟩⟩
    · simp [Value.cells] at hcs
      obtain ⟨rfl, rfl, rfl⟩ := hcs
      exact ⟨zs, .inr ⟨_, rfl, hl, hm, by simpa using hz, hcell, hwz⟩⟩
  clear hA0 hval0
  refine (walk a0 len0 cap0 z0 W w0).mono fun e W' ⟨he, bel⟩ => ?_
  subst he
  exact ⟨_, rfl, _, _, _, [], _, [], hW', trodAll_mk1 (shut_bool Try.underlying4 _), (trodAll_cons_mk (Below.trod laidOut (by kernel_rfl) (of_decide_eq_true (by kernel_rfl)) k0 bel lt0) trodAll_mk0), rfl, bel.frame _, fun h => by cases h⟩

theorem over : Rows.deltaChainsRow.holds Try.pinned (OpenSpec.ofChange Rows.deltaChainsSpec) :=
  OpenClaim.holds_of_wide 8 Try.f8 rfl rfl rfl rfl rfl rfl rfl ⟨rfl, rfl, rfl, rfl, rfl⟩ rfl rfl rfl rfl rfl (by kernel_rfl) Try.func8 (by kernel_rfl)
    (of_decide_eq_true (by kernel_rfl)) (by unfold Func.isWrapper; first | (rw [if_pos (by decide +kernel)]; kernel_rfl) | (rw [if_neg (by decide +kernel)]; exact ⟨rfl, rfl⟩))
    (fun os started H enc _ => lifted os started H enc)

/-- ████ THE STATEMENT ████ -/
theorem proved : Rows.DeltaChainsSaid := over
#print axioms proved
end Go.Proofs.Ytgaliinjjonlmaa.deltaChains
