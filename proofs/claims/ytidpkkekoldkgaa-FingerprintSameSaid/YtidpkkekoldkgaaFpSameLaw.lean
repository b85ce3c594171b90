/- For every tape, key, kind and every two byte slices, FingerprintSame returns true: Same answers as its specification. No condition. -/
import Derived.Test.YtidpkkekoldkgaaFrame
import Derived.Test.YtidpkkekoldkgaaFpSame
namespace Go.Proofs.Ytidpkkekoldkgaa.fingerprintSame
open Go.ChangeShapes Go.WideShapes Go.ChangeAt Go.RowKit
open Go.ChangeMaps (open_string shut_string)
open Go.Proofs.Ytidpkkekoldkgaa.Tp Go.Proofs.Ytidpkkekoldkgaa.Fp
open Go.Proofs.Ytidpkkekoldkgaa.Ent (Bytes)
set_option linter.unusedVariables false

theorem row_cap {k : IntKind} {w : World} {a : Option Addr} {len cap : Nat} {zs : List Int} (h : IsRow k w a len cap zs) : len ≤ cap := by
  rcases h with ⟨rfl, rfl, rfl, rfl⟩ | ⟨x, rfl, hl, _⟩
  · exact Nat.le_refl _
  · exact hl

theorem own_cap {w : World} {base n c : Nat} {A : Option Addr} {xs : List Value} (h : w.ownsRow base 5 1 (.slice A n c) n xs) : n ≤ c := by
  rcases h.2 with ⟨e, h0⟩ | ⟨g, cap, cur, e, _, _, hx⟩
  · omega
  · injection e with e1 e2 e3
    omega

set_option maxRecDepth 100000 in
set_option maxHeartbeats 1000000 in
theorem walk (a0 : Option Addr) (len0 cap0 : Nat) (z0 : List Int) (a1 : Int) (a2 : Int) (a3 : Option Addr) (len3 cap3 : Nat) (z3 : List Int) (a4 : Option Addr) (len4 cap4 : Nat) (z4 : List Int) (w : World) (w0 : IsRow .i64 w a0 len0 cap0 z0) (w1 : (Lit.int .u64 a1).wf = true) (w2 : (Lit.int .i64 a2).wf = true) (w3 : IsRow .u8 w a3 len3 cap3 z3) (w4 : IsRow .u8 w a4 len4 cap4 z4) :
    Calls Try.prog 9 #[.slice a0 len0 cap0, .int .u64 a1, .int .i64 a2, .slice a3 len3 cap3, .slice a4 len4 cap4] w fun e w' => e = .returned (.bool true) ∧ Below w.heap.size w w' := by
  have htp := tape_new w0
  have hc3 := row_cap w3
  have hc4 := row_cap w4
  obtain ⟨xs, hxs⟩ := bytes_in w3
  obtain ⟨ys, hys⟩ := bytes_in w4
  have hm3 := hxs.2.2.1
  have hm4 := hys.2.2.1
  clear w0 w1 w2 w3 w4
  have HTP := Lib.hid htp
  have HX := Lib.hid hxs
  have HY := Lib.hid hys
  have HAW := Lib.hid awake_any
  clear htp hxs hys
  by_cases hl : len3 ≤ 4000 ∧ len4 ≤ 4000
  · obtain ⟨h3, h4⟩ := hl
    have e1 : decide ((4000 : Int) < (len3 : Int)) = false := by rw [decide_eq_false_iff_not]; omega
    have e2 : decide ((4000 : Int) < (len4 : Int)) = false := by rw [decide_eq_false_iff_not]; omega
    go_enter Try.func9, Try.ntmps9
    go_wp2_with (first
      | (go_at_call 17; refine (next_any w.heap.size 20 _ HTP.out (by omega) (by omega)).mono ?_; rintro e wT ⟨r, hr0, hr1, rfl, hgT, htT⟩; obtain ⟨N, rfl⟩ : ∃ N : Nat, r = (N : Int) := ⟨r.toNat, by omega⟩; have HGT := Lib.hid hgT; have HTT := Lib.hid htT; clear hgT htT))
    have hszT := HGT.out.size
    simp at hszT
    have hN : N ≤ 19 := by omega
    clear hr0 hr1
    refine (bytes_any w.heap.size N _ HTT.out (by omega) (by omega)).mono ?_
    rintro e wA ⟨vA, rfl, bsA, hlA, hbA, hrowA, hgA, htA⟩
    have hszA := hgA.size
    obtain ⟨A, cA, rfl, _⟩ := row_form hrowA
    have hcA := own_cap hrowA
    have hbl : Below w.heap.size w wA := (((Below.refl _ w).alloc (Nat.le_refl _) _).grown HGT.out (by simp) (fun k e => by cases e; omega)).grown hgA (by omega) (fun k e => by cases e; omega)
    have byA := bytes_of_row hrowA hbA (by omega)
    have HBL := Lib.hid hbl
    have HBY := Lib.hid byA
    have HXA := Lib.hid (HX.out.below hbl)
    have HYA := Lib.hid (HY.out.below hbl)
    clear hlA hbA hrowA hgA htA hbl byA HTP HTT HGT HX HY
    clear e1 e2
    have hs1 := fun w' (h : Below wA.heap.size wA w') => same_any a1 a2 a3 a4 len3 cap3 len4 cap4 xs ys w' (HXA.out.below h) (HYA.out.below h) hc3 hc4 (by omega) (by omega)
    have hr1 := fun w' (h : Below wA.heap.size wA w') => refsame_any a1 a2 a3 a4 len3 cap3 len4 cap4 xs ys w' (HXA.out.below h) (HYA.out.below h) (by omega) (by omega)
    have hs2 := fun w' (h : Below wA.heap.size wA w') => same_any a1 a2 A A N cA N cA bsA bsA w' (HBY.out.below h) (HBY.out.below h) hcA hcA (by omega) (by omega)
    have hs3 := fun w' (h : Below wA.heap.size wA w') => same_any a1 a2 a3 A len3 cap3 N cA xs bsA w' (HXA.out.below h) (HBY.out.below h) hc3 hcA (by omega) (by omega)
    have hr3 := fun w' (h : Below wA.heap.size wA w') => refsame_any a1 a2 a3 A len3 cap3 N cA xs bsA w' (HXA.out.below h) (HBY.out.below h) (by omega) (by omega)
    have HS1 := Lib.hid hs1
    have HR1 := Lib.hid hr1
    have HS2 := Lib.hid hs2
    have HS3 := Lib.hid hs3
    have HR3 := Lib.hid hr3
    clear hs1 hr1 hs2 hs3 hr3
    generalize ofI a1 a2 xs = X at *
    generalize ofI a1 a2 ys = Y at *
    generalize ofI a1 a2 bsA = Z at *
    go_wp2_with (first
      | (go_at_call 31; refine (HS1.out _ (Below.refl _ _)).mono ?_; clear HS1; rintro e w1 ⟨rfl, hb1⟩; have HB1 := Lib.hid hb1; clear hb1)
      | (go_at_call 32; refine (HR1.out _ HB1.out).mono ?_; clear HR1; rintro e w6 ⟨rfl, rfl⟩)
      | (go_at_call 31; refine (HS2.out _ HB1.out).mono ?_; clear HS2; rintro e w2 ⟨rfl, hb2⟩; have HB2 := Lib.hid (HB1.out.trans (hb2.mono HB1.out.size)); clear hb2)
      | (go_at_call 31; refine (HS3.out _ HB2.out).mono ?_; clear HS3; rintro e w3 ⟨rfl, hb3⟩; have HB3 := Lib.hid (HB2.out.trans (hb3.mono HB2.out.size)); clear hb3)
      | (go_at_call 32; refine (HR3.out _ HB3.out).mono ?_; clear HR3; rintro e w6 ⟨rfl, rfl⟩)
      | (go_at_call 30; refine (HAW.out _).mono ?_; rintro e w7 ⟨rfl, hb7⟩; have HB7 := Lib.hid (HB3.out.trans (hb7.mono HB3.out.size)); clear hb7))
    go_ret
    exact ⟨rfl, HBL.out.trans (HB7.out.mono HBL.out.size)⟩
  · have hor : 4001 ≤ len3 ∨ 4001 ≤ len4 := by omega
    rcases hor with h3 | h4
    · have e1 : decide ((4000 : Int) < (len3 : Int)) = true := by rw [decide_eq_true_iff]; omega
      go_enter Try.func9, Try.ntmps9
      go_wp2_with (go_at_call 30; refine (HAW.out _).mono ?_; rintro e w' ⟨rfl, hb⟩; have HB := Lib.hid hb; clear hb)
      go_ret
      exact ⟨rfl, HB.out⟩
    · have e1 : decide ((4000 : Int) < (len4 : Int)) = true := by rw [decide_eq_true_iff]; omega
      go_enter Try.func9, Try.ntmps9
      go_wp2_with (go_at_call 30; refine (HAW.out _).mono ?_; rintro e w' ⟨rfl, hb⟩; have HB := Lib.hid hb; clear hb)
      all_goals go_ret
      all_goals exact ⟨rfl, HB.out⟩

/-! ### THE ROW's STEP: WRITTEN OUT: LEAVE IT -/
set_option maxRecDepth 100000 in
theorem lifted (os : Os) (started : os.Started) (H : Type) (enc : TypeId × Value → H) :
    ReturnsInHanded {} Try.checked os 9 .any (Rows.fingerprintSameSpec.pre6 enc Try.prog Try.f9 Rows.fingerprintSameRow.domain false) (Rows.fingerprintSameSpec.post enc Try.prog Try.f9 false true false false) := by
  refine returnsInHanded_of_change (C := Try.checked) own started (by kernel_rfl) Try.func9
    (ChangeSpec.witness6 (enc := enc) (C := Try.checked) false ⟨#[], #[.slice none 0 0, .int .u64 0, .int .i64 0, .slice none 0 0, .slice none 0 0], []⟩ 8 (by kernel_rfl) (by kernel_rfl) (by kernel_rfl) (by kernel_rfl)) ?_
  intro W base args ds gs before hval0 hW hcnd _
  have hval : ∀ (j : Nat) t v, Try.f9.params[j]? = some t → args[j]? = some v → Value.okWide Try.prog W .any base t v := hval0
  have hW' := hW
  obtain ⟨p, q, hA0, hV, rfl, hfz, hnd⟩ := hW
  have hA : DataW.TrodAll enc Try.prog W 0 (fun _ => true) true Try.f9.params.toList args.toList ds p := hA0
  rw [Try.params9] at hA hval
  obtain ⟨v0, vs0, d0, ds0, p0, q0, hargs, rfl, rfl, h0, r0⟩ := trodAll_cons hA
  obtain ⟨v1, vs1, d1, ds1, p1, q1, rfl, rfl, rfl, h1, r1⟩ := trodAll_cons r0
  obtain ⟨v2, vs2, d2, ds2, p2, q2, rfl, rfl, rfl, h2, r2⟩ := trodAll_cons r1
  obtain ⟨v3, vs3, d3, ds3, p3, q3, rfl, rfl, rfl, h3, r3⟩ := trodAll_cons r2
  obtain ⟨v4, vs4, d4, ds4, p4, q4, rfl, rfl, rfl, h4, r4⟩ := trodAll_cons r3
  obtain ⟨rfl, rfl, rfl⟩ := trodAll_nil r4
  obtain rfl : args = #[v0, v1, v2, v3, v4] := by cases args; simp_all
  obtain ⟨rfl, rfl⟩ := trodVars_none hV
  obtain ⟨a0, len0, cap0, rfl⟩ := okWide_slice Try.underlying23 (hval 0 23 v0 rfl rfl)
  have k0 := h0
  have lt0 : ∀ x ∈ p0, x.block < W.heap.size := by obtain ⟨m, hm⟩ := k0; exact DataW.trod_lt m _ _ _ hm
  obtain ⟨z0, w0⟩ : ∃ zs, IsRow .i64 W a0 len0 cap0 zs := by
    obtain ⟨fuel, hf⟩ := h0
    rcases open_ints Try.underlying23 Try.underlying3 (by kernel_rfl) hf with ⟨hcs, _⟩ | ⟨x, l, c, zs, hcs, _, hl, hm, hz, _, hcell, hwz⟩
    · simp [Value.cells] at hcs
      obtain ⟨rfl, rfl, rfl⟩ := hcs
      exact ⟨[], .inl ⟨rfl, rfl, rfl, rfl⟩⟩
    · simp [Value.cells] at hcs
      obtain ⟨rfl, rfl, rfl⟩ := hcs
      exact ⟨zs, .inr ⟨_, rfl, hl, hm, by simpa using hz, hcell, hwz⟩⟩
  obtain ⟨a1, rfl, rfl, rfl, w1⟩ := open_int Try.underlying40 (hval 1 40 v1 rfl rfl) h1
  obtain ⟨a2, rfl, rfl, rfl, w2⟩ := open_int Try.underlying3 (hval 2 3 v2 rfl rfl) h2
  obtain ⟨a3, len3, cap3, rfl⟩ := okWide_slice Try.underlying27 (hval 3 27 v3 rfl rfl)
  have k3 := h3
  have lt3 : ∀ x ∈ p3, x.block < W.heap.size := by obtain ⟨m, hm⟩ := k3; exact DataW.trod_lt m _ _ _ hm
  obtain ⟨z3, w3⟩ : ∃ zs, IsRow .u8 W a3 len3 cap3 zs := by
    obtain ⟨fuel, hf⟩ := h3
    rcases open_ints Try.underlying27 Try.underlying5 (by kernel_rfl) hf with ⟨hcs, _⟩ | ⟨x, l, c, zs, hcs, _, hl, hm, hz, _, hcell, hwz⟩
    · simp [Value.cells] at hcs
      obtain ⟨rfl, rfl, rfl⟩ := hcs
      exact ⟨[], .inl ⟨rfl, rfl, rfl, rfl⟩⟩
    · simp [Value.cells] at hcs
      obtain ⟨rfl, rfl, rfl⟩ := hcs
      exact ⟨zs, .inr ⟨_, rfl, hl, hm, by simpa using hz, hcell, hwz⟩⟩
  obtain ⟨a4, len4, cap4, rfl⟩ := okWide_slice Try.underlying27 (hval 4 27 v4 rfl rfl)
  have k4 := h4
  have lt4 : ∀ x ∈ p4, x.block < W.heap.size := by obtain ⟨m, hm⟩ := k4; exact DataW.trod_lt m _ _ _ hm
  obtain ⟨z4, w4⟩ : ∃ zs, IsRow .u8 W a4 len4 cap4 zs := by
    obtain ⟨fuel, hf⟩ := h4
    rcases open_ints Try.underlying27 Try.underlying5 (by kernel_rfl) hf with ⟨hcs, _⟩ | ⟨x, l, c, zs, hcs, _, hl, hm, hz, _, hcell, hwz⟩
    · simp [Value.cells] at hcs
      obtain ⟨rfl, rfl, rfl⟩ := hcs
      exact ⟨[], .inl ⟨rfl, rfl, rfl, rfl⟩⟩
    · simp [Value.cells] at hcs
      obtain ⟨rfl, rfl, rfl⟩ := hcs
      exact ⟨zs, .inr ⟨_, rfl, hl, hm, by simpa using hz, hcell, hwz⟩⟩
  clear hA0 hval0
  refine (walk a0 len0 cap0 z0 a1 a2 a3 len3 cap3 z3 a4 len4 cap4 z4 W w0 w1 w2 w3 w4).mono fun e W' ⟨he, bel⟩ => ?_
  subst he
  exact ⟨_, rfl, _, _, _, [], _, [], hW', trodAll_mk1 (shut_bool Try.underlying4 _), (trodAll_cons_mk (Below.trod laidOut (by kernel_rfl) (of_decide_eq_true (by kernel_rfl)) k0 bel lt0) (trodAll_cons_mk (shut_int Try.underlying40 w1) (trodAll_cons_mk (shut_int Try.underlying3 w2) (trodAll_cons_mk (Below.trod laidOut (by kernel_rfl) (of_decide_eq_true (by kernel_rfl)) k3 bel lt3) (trodAll_cons_mk (Below.trod laidOut (by kernel_rfl) (of_decide_eq_true (by kernel_rfl)) k4 bel lt4) trodAll_mk0))))), rfl, bel.frame _, fun h => by cases h⟩

theorem over : Rows.fingerprintSameRow.holds Try.pinned (OpenSpec.ofChange Rows.fingerprintSameSpec) :=
  OpenClaim.holds_of_wide 9 Try.f9 rfl rfl rfl rfl rfl rfl rfl ⟨rfl, rfl, rfl, rfl, rfl⟩ rfl rfl rfl rfl rfl (by kernel_rfl) Try.func9 (by kernel_rfl)
    (of_decide_eq_true (by kernel_rfl)) (by unfold Func.isWrapper; first | (rw [if_pos (by decide +kernel)]; kernel_rfl) | (rw [if_neg (by decide +kernel)]; exact ⟨rfl, rfl⟩))
    (fun os started H enc _ => lifted os started H enc)

/-- ████ THE STATEMENT ████ -/
theorem proved : Rows.FingerprintSameSaid := over
#print axioms proved
end Go.Proofs.Ytidpkkekoldkgaa.fingerprintSame
