/- For every two numbers of 64 bits and every integer, FingerprintMixes returns true: Mix is one to one. No condition. -/
import Derived.Test.YtidpkkekoldkgaaRows
import Derived.WalkKit
import Derived.ProofKit
import Derived.OpenShut
import Derived.Test.YtidpkkekoldkgaaFpAwake
import Derived.Test.YtidpkkekoldkgaaEntAwake
namespace Go.Proofs.Ytidpkkekoldkgaa.fingerprintMixes
open Go.ChangeShapes Go.WideShapes Go.ChangeAt Go.RowKit
open Go.Proofs.Ytidpkkekoldkgaa.Fp Go.Proofs.Ytidpkkekoldkgaa.Tp
set_option linter.unusedVariables false

theorem own : ownKnob Try.prog.godebug = none := by kernel_rfl

def U6 (g : Nat) (w : World) : Prop := ∀ k, k < 6 → ∃ x : Int, 0 ≤ x ∧ x ≤ 18446744073709551615 ∧ w.cell? ⟨g, k, none⟩ = some (.int .u64 x)
def In64 (x : Int) : Prop := 0 ≤ x ∧ x ≤ 18446744073709551615
theorem in_wrap (n : Int) : In64 (IntKind.u64.wrap n) := by
  unfold In64
  rw [u64_wrap]
  omega
theorem in_xor (a b : Int) : In64 (bits .xor .u64 a b) := bits_bd .xor a b

theorem six_new (w : World) (a b c d e f : Int) (ha : In64 a) (hb : In64 b) (hc : In64 c) (hd : In64 d) (he : In64 e) (hf : In64 f) : U6 w.heap.size (w.alloc (.cells #[.int .u64 a, .int .u64 b, .int .u64 c, .int .u64 d, .int .u64 e, .int .u64 f] 40)) := by
  intro k hk
  rw [cell_of_row _ _ _ _ _ _ (heap_alloc_new _ _)]
  rcases (by omega : k = 0 ∨ k = 1 ∨ k = 2 ∨ k = 3 ∨ k = 4 ∨ k = 5) with rfl | rfl | rfl | rfl | rfl | rfl
  · exact ⟨a, ha.1, ha.2, rfl⟩
  · exact ⟨b, hb.1, hb.2, rfl⟩
  · exact ⟨c, hc.1, hc.2, rfl⟩
  · exact ⟨d, hd.1, hd.2, rfl⟩
  · exact ⟨e, he.1, he.2, rfl⟩
  · exact ⟨f, hf.1, hf.2, rfl⟩

theorem mix_same (x : Int) (w : World) : Calls Try.prog 28 #[.int .u64 x] w fun e w' => e = .returned (.int .u64 (mixI x)) ∧ w' = w := (mix_any x w).mono fun _ _ ⟨he, hw⟩ => ⟨he, hw.symm⟩

set_option maxRecDepth 100000 in
set_option maxHeartbeats 1000000 in
theorem walk (a0 : Int) (a1 : Int) (a2 : Int) (w : World) (h0 : In64 a0) (h1 : In64 a1) :
    Calls Try.prog 11 #[.int .u64 a0, .int .u64 a1, .int .i64 a2] w fun e w' => e = .returned (.bool true) ∧ Below w.heap.size w w' := by
  have hk := Go.Proofs.Ytidpkkekoldkgaa.Ent.and_63 a2
  obtain ⟨K, hK⟩ : ∃ K : Nat, a2 % 64 = (K : Int) := ⟨(a2 % 64).toNat, by omega⟩
  have hk63 : (K : Int) ≤ 63 := by omega
  rw [hK] at hk
  clear hK
  have HAW := Lib.hid awake_any
  have H0 := Lib.hid h0
  have H1 := Lib.hid h1
  clear h0 h1
  go_enter Try.func11, Try.ntmps11
  go_wp2
  clear hk
  go_loopw [8, 9] (fun i _ wr => ∃ j : Nat, j ≤ 6 ∧ i = .int .i64 j ∧ U6 w.heap.size wr ∧ Below w.heap.size w wr) (fun i _ _ => 6 - (intOf i).toNat)
  case atStart =>
    refine ⟨0, by omega, rfl, ?_, (Below.refl _ _).alloc (Nat.le_refl _) _⟩
    exact six_new _ _ _ _ _ _ _ H0.out H1.out (in_wrap _) (in_xor _ _) (in_wrap _) (by unfold In64; omega)
  case round =>
    obtain ⟨j, hj, rfl, hu, hbl⟩ := hrel
    have HU := Lib.hid hu
    have HBL := Lib.hid hbl
    clear hu hbl
    by_cases hlt : j < 6
    · obtain ⟨x, hx0, hx1, hx⟩ := HU.out j hlt
      go_wp2
      obtain ⟨wo, hwo⟩ : ∃ wo : World, wo = wr := ⟨_, rfl⟩
      rw [← hwo] at HU HBL hx ⊢
      clear hwo
      go_loopw [9] (fun i wr => ∃ k : Nat, k ≤ j ∧ i = .int .i64 k ∧ U6 w.heap.size wr ∧ Below w.heap.size w wr ∧ wr.cell? ⟨w.heap.size, j, none⟩ = some (.int .u64 x)) (fun i _ => j - (intOf i).toNat)
      case atStart => exact ⟨0, by omega, rfl, HU.out, HBL.out, hx⟩
      case round =>
        obtain ⟨k, hk, rfl, hu, hbl, hxx⟩ := hrel
        have HU2 := Lib.hid hu
        have HBL2 := Lib.hid hbl
        clear hu hbl hx
        by_cases hkj : k < j
        · obtain ⟨y, hy0, hy1, hy⟩ := HU2.out k (by omega)
          have hq : (mixI x == mixI y) = (x == y) := by
            have := mixI_inj hx0 hx1 hy0 hy1
            rw [Bool.eq_iff_iff, beq_iff_eq, beq_iff_eq]
            exact this
          have HXX := Lib.hid hxx
          clear hy0 hy1 hx0 hx1
          go_wp2
          go_quiet ((go_at_call 28; with_reducible exact Calls.quiet_of_same (mix_same _ _)))
          go_wp2
          exact ⟨⟨k+1, by omega, by go_num, HU2.out, HBL2.out.trans ⟨rfl,rfl,rfl,Nat.le_refl _,fun _ _ => rfl⟩, HXX.out⟩, by simp [intOf]; omega⟩
        · obtain rfl : k = j := by omega
          go_wp2
          exact ⟨⟨k+1, by omega, by go_num, HU2.out, HBL2.out⟩, by simp [intOf]; omega⟩
    · obtain rfl : j = 6 := by omega
      go_wp2_with (go_at_call 30; refine (HAW.out _).mono ?_; rintro e w' ⟨rfl, hb⟩; have HB := Lib.hid hb; clear hb)
      go_ret
      exact ⟨rfl, HBL.out.trans (HB.out.mono HBL.out.size)⟩

/-! ### THE ROW's STEP: WRITTEN OUT: LEAVE IT -/
set_option maxRecDepth 100000 in
theorem lifted (os : Os) (started : os.Started) (H : Type) (enc : TypeId × Value → H) :
    ReturnsInHanded {} Try.checked os 11 .any (Rows.fingerprintMixesSpec.pre6 enc Try.prog Try.f11 Rows.fingerprintMixesRow.domain false) (Rows.fingerprintMixesSpec.post enc Try.prog Try.f11 false true false false) := by
  refine returnsInHanded_of_change (C := Try.checked) own started (by kernel_rfl) Try.func11
    (ChangeSpec.witness6 (enc := enc) (C := Try.checked) false ⟨#[], #[.int .u64 0, .int .u64 0, .int .i64 0], []⟩ 8 (by kernel_rfl) (by kernel_rfl) (by kernel_rfl) (by kernel_rfl)) ?_
  intro W base args ds gs before hval0 hW hcnd _
  have hval : ∀ (j : Nat) t v, Try.f11.params[j]? = some t → args[j]? = some v → Value.okWide Try.prog W .any base t v := hval0
  have hW' := hW
  obtain ⟨p, q, hA0, hV, rfl, hfz, hnd⟩ := hW
  have hA : DataW.TrodAll enc Try.prog W 0 (fun _ => true) true Try.f11.params.toList args.toList ds p := hA0
  rw [Try.params11] at hA hval
  obtain ⟨v0, vs0, d0, ds0, p0, q0, hargs, rfl, rfl, h0, r0⟩ := trodAll_cons hA
  obtain ⟨v1, vs1, d1, ds1, p1, q1, rfl, rfl, rfl, h1, r1⟩ := trodAll_cons r0
  obtain ⟨v2, vs2, d2, ds2, p2, q2, rfl, rfl, rfl, h2, r2⟩ := trodAll_cons r1
  obtain ⟨rfl, rfl, rfl⟩ := trodAll_nil r2
  obtain rfl : args = #[v0, v1, v2] := by cases args; simp_all
  obtain ⟨rfl, rfl⟩ := trodVars_none hV
  obtain ⟨a0, rfl, rfl, rfl, w0⟩ := open_int Try.underlying40 (hval 0 40 v0 rfl rfl) h0
  obtain ⟨a1, rfl, rfl, rfl, w1⟩ := open_int Try.underlying40 (hval 1 40 v1 rfl rfl) h1
  obtain ⟨a2, rfl, rfl, rfl, w2⟩ := open_int Try.underlying3 (hval 2 3 v2 rfl rfl) h2
  clear hA0 hval0
  refine (walk a0 a1 a2 W ⟨(bounds_u64 w0).1, (bounds_u64 w0).2⟩ ⟨(bounds_u64 w1).1, (bounds_u64 w1).2⟩).mono fun e W' ⟨he, bel⟩ => ?_
  subst he
  exact ⟨_, rfl, _, _, _, [], _, [], hW', trodAll_mk1 (shut_bool Try.underlying4 _), (trodAll_cons_mk (shut_int Try.underlying40 w0) (trodAll_cons_mk (shut_int Try.underlying40 w1) (trodAll_cons_mk (shut_int Try.underlying3 w2) trodAll_mk0))), rfl, bel.frame _, fun h => by cases h⟩

theorem over : Rows.fingerprintMixesRow.holds Try.pinned (OpenSpec.ofChange Rows.fingerprintMixesSpec) :=
  OpenClaim.holds_of_wide 11 Try.f11 rfl rfl rfl rfl rfl rfl rfl ⟨rfl, rfl, rfl, rfl, rfl⟩ rfl rfl rfl rfl rfl (by kernel_rfl) Try.func11 (by kernel_rfl)
    (of_decide_eq_true (by kernel_rfl)) (by unfold Func.isWrapper; first | (rw [if_pos (by decide +kernel)]; kernel_rfl) | (rw [if_neg (by decide +kernel)]; exact ⟨rfl, rfl⟩))
    (fun os started H enc _ => lifted os started H enc)

/-- ████ THE STATEMENT ████ -/
theorem proved : Rows.FingerprintMixesSaid :=
  over
#print axioms proved
end Go.Proofs.Ytidpkkekoldkgaa.fingerprintMixes
