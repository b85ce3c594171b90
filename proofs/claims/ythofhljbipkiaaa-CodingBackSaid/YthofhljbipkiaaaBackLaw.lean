/- For every tape and every number, CodingBack returns true: decoding an encoding gives the bytes. No condition. -/
import Derived.Test.YthofhljbipkiaaaCoP
import Derived.Test.YthofhljbipkiaaaCoV
import Derived.Below
namespace Go.Proofs.Ythofhljbipkiaaa.codingBack
open Go.ChangeShapes Go.WideShapes Go.ChangeAt Go.RowKit
open Go.ChangeMaps (open_string shut_string)
open Go.Proofs.Ythofhljbipkiaaa.Tp
open Go.Proofs.Ythofhljbipkiaaa.Co
set_option linter.unusedVariables false

theorem and63n (n : Int) : bits .and .i64 n 63 = n % 64 := by
  have hm : (BitVec.ofInt 64 63).toNat = 2 ^ 6 - 1 := by decide
  have key : (BitVec.ofInt 64 n &&& BitVec.ofInt 64 63).toNat = (n % ((2 ^ 64 : Nat) : Int)).toNat % 2 ^ 6 := by
    rw [BitVec.toNat_and, BitVec.toNat_ofInt, hm, Nat.and_two_pow_sub_one_eq_mod]
  show IntKind.i64.wrap ((BitVec.ofInt 64 n &&& BitVec.ofInt 64 63).toNat : Nat) = n % 64
  rw [key, IntKind.wrap_i64]
  omega

set_option maxRecDepth 100000 in
set_option maxHeartbeats 4000000 in
theorem walk (a0 : Option Addr) (len0 cap0 : Nat) (z0 : List Int) (a1 : Int) (w : World) (w0 : IsRow .i64 w a0 len0 cap0 z0) (w1 : (Lit.int .i64 a1).wf = true) :
    Calls Try.prog 6 #[.slice a0 len0 cap0, .int .i64 a1] w fun e w' => e = .returned (.bool true) ∧ Below w.heap.size w w' := by
  have HTP := Lib.hid (tape_new w0)
  have HBX := Lib.hid (box_below w (.cells #[.slice a0 len0 cap0, .int .i64 0] 26))
  clear w0 w1
  obtain ⟨m, hm, hm1⟩ : ∃ m : Nat, a1 % 64 = (m : Int) ∧ m < 64 := ⟨(a1 % 64).toNat, by omega, by omega⟩
  have e1 : bits .and .i64 a1 63 = (m : Int) := (and63n a1).trans hm
  clear hm
  go_enter Try.func6, Try.ntmps6
  go_wp2_with fail
  refine (bytes_any w.heap.size m _ HTP.out (by simp) (by omega)).mono ?_
  rintro e w6 ⟨v, rfl, bs, hl, hb, hrow, hg6, ht6⟩
  have HB6 := Lib.hid (HBX.out.grown hg6 HBX.out.size (fun k e => by cases e; exact Nat.le_refl _))
  have HY1 := Lib.hid (by_own hrow hl hb).1
  have HLE := Lib.hid hb
  have hl1 : bs.length ≤ 100 := by omega
  obtain ⟨D1, c1, rfl⟩ := HY1.out.form
  clear hg6 ht6 hrow hb hl HBX HTP
  go_wp2_with fail
  go_loopw [7] (fun i w3 => Below w6.heap.size w6 w3 ∧ ∃ k : Nat, 1 ≤ k ∧ k ≤ 5 ∧ i = .int .i64 (k : Int)) (fun i _ => 5 - (intOf i).toNat)
  case atStart => exact ⟨Below.refl _ _, 1, by omega, by omega, rfl⟩
  case round =>
    obtain ⟨hbr, k, hk1, hk5, rfl⟩ := hrel
    have HBR := Lib.hid hbr
    clear hbr
    by_cases hlt : k ≤ 4
    · have hki : (k : Int) ≤ 4 := by omega
      have hv : encV (k : Int) bs = .tuple #[.string (strB (encL (k : Int) bs)), .int .i64 0] := by unfold encV; rw [if_neg (by omega), if_neg (by omega)]
      have HV := Lib.hid hv
      have hfew := encL_few (k : Int) bs
      have hsz : (strB (encL (k : Int) bs)).size ≤ 400 := by rw [size_strB]; omega
      have hD : DecAll (k : Int) (strB (encL (k : Int) bs)) = .inr (some bs) := by
        unfold DecAll
        rw [if_neg (by omega), if_neg (by omega), nums_strB (encL_le HLE.out), dec_enc (by omega) (by omega) HLE.out]
      have HD := Lib.hid hD
      have HSZ := Lib.hid hsz
      clear hv hD hfew hsz
      generalize strB (encL (k : Int) bs) = S at *
      have hcb := conv_by (HY1.out.below HBR.out)
      clear hcb
      go_wp2_with (first
        | (go_at_call 10; refine (encode_any (k : Int) _ bs _ (HY1.out.below HBR.out) (by omega)).mono ?_; rintro e w2 ⟨rfl, hb2⟩; rw [HV.out]; have HB2 := Lib.hid (HBR.out.trans (hb2.mono HBR.out.size)); clear hb2)
        | (go_at_call 16; refine (decode_any (k : Int) S _ (Nat.le_trans HSZ.out (by decide))).mono ?_; rintro e w4 hpost; rw [HD.out] at hpost; obtain ⟨⟨v4, rfl, hr4⟩, hb4⟩ := hpost; have hcv := hr4.conv HLE.out; have HB4 := Lib.hid (HB2.out.trans (hb4.mono HB2.out.size)); have hcb := conv_by (HY1.out.below HB4.out); clear hb4 hr4))
      exact ⟨⟨HB4.out, k + 1, by omega, by omega, by go_num⟩, by simp [intOf]; omega⟩
    · obtain rfl : k = 5 := by omega
      go_wp2_with (go_at_call 14; refine (awake_any _).mono ?_; rintro e w9 ⟨rfl, hb9⟩)
      go_ret
      exact ⟨rfl, HB6.out.trans ((HBR.out.trans (hb9.mono HBR.out.size)).mono HB6.out.size)⟩

/-! ### THE ROW's STEP: WRITTEN OUT: LEAVE IT -/
set_option maxRecDepth 100000 in
theorem lifted (os : Os) (started : os.Started) (H : Type) (enc : TypeId × Value → H) :
    ReturnsInHanded {} Try.checked os 6 .any (Rows.codingBackSpec.pre6 enc Try.prog Try.f6 Rows.codingBackRow.domain false) (Rows.codingBackSpec.post enc Try.prog Try.f6 false true false false) := by
  refine returnsInHanded_of_change (C := Try.checked) own started (by kernel_rfl) Try.func6
    (ChangeSpec.witness6 (enc := enc) (C := Try.checked) false ⟨#[], #[.slice none 0 0, .int .i64 0], []⟩ 8 (by kernel_rfl) (by kernel_rfl) (by kernel_rfl) (by kernel_rfl)) ?_
  intro W base args ds gs before hval0 hW hcnd _
  have hval : ∀ (j : Nat) t v, Try.f6.params[j]? = some t → args[j]? = some v → Value.okWide Try.prog W .any base t v := hval0
  have hW' := hW
  obtain ⟨p, q, hA0, hV, rfl, hfz, hnd⟩ := hW
  have hA : DataW.TrodAll enc Try.prog W 0 (fun _ => true) true Try.f6.params.toList args.toList ds p := hA0
  rw [Try.params6] at hA hval
  obtain ⟨v0, vs0, d0, ds0, p0, q0, hargs, rfl, rfl, h0, r0⟩ := trodAll_cons hA
  obtain ⟨v1, vs1, d1, ds1, p1, q1, rfl, rfl, rfl, h1, r1⟩ := trodAll_cons r0
  obtain ⟨rfl, rfl, rfl⟩ := trodAll_nil r1
  obtain rfl : args = #[v0, v1] := by cases args; simp_all
  obtain ⟨rfl, rfl⟩ := trodVars_none hV
  obtain ⟨a0, len0, cap0, rfl⟩ := okWide_slice Try.underlying22 (hval 0 22 v0 rfl rfl)
  have k0 := h0
  have lt0 : ∀ x ∈ p0, x.block < W.heap.size := by obtain ⟨m, hm⟩ := k0; exact DataW.trod_lt m _ _ _ hm
  obtain ⟨z0, w0⟩ : ∃ zs, IsRow .i64 W a0 len0 cap0 zs := by
    obtain ⟨fuel, hf⟩ := h0
    rcases open_ints Try.underlying22 Try.underlying3 (by kernel_rfl) hf with ⟨hcs, _⟩ | ⟨x, l, c, zs, hcs, _, hl, hm, hz, _, hcell, hwz⟩
    · simp [Value.cells] at hcs
      obtain ⟨rfl, rfl, rfl⟩ := hcs
      exact ⟨[], .inl ⟨rfl, rfl, rfl, rfl⟩⟩
    · simp [Value.cells] at hcs
      obtain ⟨rfl, rfl, rfl⟩ := hcs
      exact ⟨zs, .inr ⟨_, rfl, hl, hm, by simpa using hz, hcell, hwz⟩⟩
  obtain ⟨a1, rfl, rfl, rfl, w1⟩ := open_int Try.underlying3 (hval 1 3 v1 rfl rfl) h1
  clear hA0 hval0
  refine (walk a0 len0 cap0 z0 a1 W w0 w1).mono fun e W' ⟨he, bel⟩ => ?_
  subst he
  exact ⟨_, rfl, _, _, _, [], _, [], hW', trodAll_mk1 (shut_bool Try.underlying4 _), (trodAll_cons_mk (Below.trod laidOut (by kernel_rfl) (of_decide_eq_true (by kernel_rfl)) k0 bel lt0) (trodAll_cons_mk (shut_int Try.underlying3 w1) trodAll_mk0)), rfl, bel.frame _, fun h => by cases h⟩

theorem over : Rows.codingBackRow.holds Try.pinned (OpenSpec.ofChange Rows.codingBackSpec) :=
  OpenClaim.holds_of_wide 6 Try.f6 rfl rfl rfl rfl rfl rfl rfl ⟨rfl, rfl, rfl, rfl, rfl⟩ rfl rfl rfl rfl rfl (by kernel_rfl) Try.func6 (by kernel_rfl)
    (of_decide_eq_true (by kernel_rfl)) (by unfold Func.isWrapper; first | (rw [if_pos (by decide +kernel)]; kernel_rfl) | (rw [if_neg (by decide +kernel)]; exact ⟨rfl, rfl⟩))
    (fun os started H enc _ => lifted os started H enc)

/-- ████ THE STATEMENT ████ -/
theorem proved : Rows.CodingBackSaid := over
#print axioms proved
end Go.Proofs.Ythofhljbipkiaaa.codingBack
