/- For every tape, every key and every kind, FingerprintLength returns true. No condition. -/
import Derived.Test.YtidpkkekoldkgaaFrame
import Derived.Test.YtidpkkekoldkgaaFpAwake
namespace Go.Proofs.Ytidpkkekoldkgaa.fingerprintLength
open Go.ChangeShapes Go.WideShapes Go.ChangeAt Go.RowKit
open Go.ChangeMaps (open_string shut_string)
open Go.Proofs.Ytidpkkekoldkgaa.Tp Go.Proofs.Ytidpkkekoldkgaa.Fp
open Go.Proofs.Ytidpkkekoldkgaa.Ent (Bytes)
set_option linter.unusedVariables false

theorem bytes_nil (w : World) : Bytes w none 0 [] := ⟨rfl, by simp, by omega, fun h => absurd h (by omega)⟩

theorem xor_zero (x : Int) (h0 : 0 ≤ x) (h1 : x ≤ 18446744073709551615) : bits .xor .u64 x 0 = x := by
  obtain ⟨X, rfl⟩ : ∃ X : Nat, x = (X : Int) := ⟨x.toNat, by omega⟩
  have := xor_bv X 0 (by omega) (by omega)
  simpa using this

theorem of_nil (key kind : Int) : ofI key kind [] = mixI (mixI (bits .xor .u64 (mixI key) (IntKind.u64.wrap kind))) := by
  have hb := bits_bd .xor (mixI key) (IntKind.u64.wrap kind)
  have hm := mixI_bd _ hb.1 hb.2
  unfold ofI hOf
  rw [if_neg (by simp)]
  have hz : numC ([] : List Nat).length = 0 := by decide
  rw [hz, List.range_zero, List.foldl_nil]
  unfold h0I
  rw [List.length_nil, Int.natCast_zero, xor_zero _ hm.1 hm.2]

theorem nil_any (key kind : Int) (w : World) : Calls Try.prog 26 #[.int .u64 key, .int .i64 kind, .slice none 0 0] w fun e w' => e = .returned (.int .u64 (mixI (mixI (bits .xor .u64 (mixI key) (IntKind.u64.wrap kind))))) ∧ Below w.heap.size w w' := by
  have := of_any key kind none 0 0 [] w (bytes_nil w) (Nat.le_refl _)
  rwa [of_nil] at this

set_option maxRecDepth 100000 in
set_option maxHeartbeats 1000000 in
theorem walk (a0 : Option Addr) (len0 cap0 : Nat) (z0 : List Int) (a1 : Int) (a2 : Int) (w : World) (w0 : IsRow .i64 w a0 len0 cap0 z0) (w1 : (Lit.int .u64 a1).wf = true) (w2 : (Lit.int .i64 a2).wf = true) :
    Calls Try.prog 12 #[.slice a0 len0 cap0, .int .u64 a1, .int .i64 a2] w fun e w' => e = .returned (.bool true) ∧ Below w.heap.size w w' := by
  have htp := tape_new w0
  clear w0 w1 w2
  have HTP := Lib.hid htp
  clear htp
  have hbt : ∀ w, TapeOk w w.heap.size → True := fun _ _ => trivial
  clear hbt
  go_enter Try.func12, Try.ntmps12
  go_wp2_with (first
    | (go_at_call 33; refine (between_any w.heap.size 1 7 _ HTP.out (by omega) (by omega) (by omega) (by omega)).mono ?_; rintro e wT ⟨r, hr1, hr7, rfl, hgT, htT⟩; obtain ⟨N, rfl⟩ : ∃ N : Nat, r = (N : Int) := ⟨r.toNat, by omega⟩; have HGT := Lib.hid hgT; have HTT := Lib.hid htT; clear hgT htT))
  have hszT := HGT.out.size
  simp at hszT
  have hN7 : N ≤ 7 := by omega
  have hN1 : 1 ≤ N := by omega
  clear hr1 hr7
  refine (bytes_any w.heap.size N _ HTT.out (by omega) (by omega)).mono ?_
  rintro e wA ⟨vA, rfl, bsA, hlA, hbA, hrowA, hgA, htA⟩
  have hszA := hgA.size
  obtain ⟨A, cA, rfl, _⟩ := row_form hrowA
  have hbl : Below w.heap.size w wA := (((Below.refl _ w).alloc (Nat.le_refl _) _).grown HGT.out (by simp) (fun k e => by cases e; omega)).grown hgA (by omega) (fun k e => by cases e; omega)
  have byA := bytes_of_row hrowA hbA (by omega)
  have HBL := Lib.hid hbl
  have HBY := Lib.hid byA
  have HLA := Lib.hid hlA
  have HBA := Lib.hid hbA
  have HRA := Lib.hid hrowA
  clear hlA hbA hrowA hgA htA hbl byA HTP HTT
  have hcA : N ≤ cA := by
    rcases HRA.out.2 with ⟨_, e⟩ | ⟨g, cap, cur, e, _, _, hx⟩
    · omega
    · injection e with e1 e2 e3
      omega
  go_wp2_with fail
  refine (of_any a1 a2 A N cA bsA wA HBY.out hcA).mono ?_
  rintro e w1 ⟨rfl, hb1⟩
  have HB1 := Lib.hid hb1
  clear hb1
  have hs1 := HB1.out.size
  have rowA := row_below HRA.out HB1.out
  have HRA1 := Lib.hid rowA
  clear rowA
  have HMX := Lib.hid refmix_any
  have HAW := Lib.hid awake_any
  have HOF := Lib.hid of_any
  go_wp2_with (first
    | (at_builtin; refine append_src rfl (.tmp 22) (.tmp 23) rfl w1.heap.size _ (.slice (some ⟨w1.heap.size, 0, none⟩) 0 0) (.slice A N cA) 0 N [] (u8s bsA) rfl rfl (World.ownsRow_lit _ #[] 0 (Nat.le_refl _) (by unfold maxLen; omega) rfl) (HRA1.out.alloc _) (u8s_one _) (by omega) (by simp) ?_; intro v3 w3 hown3 hgr3; have HO3 := Lib.hid hown3; have HG3 := Lib.hid hgr3; clear hown3 hgr3))
  have hrow3 : w3.ownsRow w1.heap.size 5 1 v3 N (u8s bsA) := by simpa using HO3.out
  obtain ⟨C, c3, rfl, _⟩ := row_form hrow3
  have hc3 : N ≤ c3 := by
    rcases hrow3.2 with ⟨_, e⟩ | ⟨g, cap, cur, e, _, _, hx⟩
    · omega
    · injection e with e1 e2 e3
      omega
  have byC := bytes_of_row hrow3 HBA.out (by omega)
  have hbl3 : Below w.heap.size w w3 := by
    have b1 := HBL.out.trans (HB1.out.mono HBL.out.size)
    have b2 := (b1.alloc b1.size (.cells #[] 5))
    exact b2.grown HG3.out b2.size (fun k e => by cases e; exact b1.size)
  have HBL3 := Lib.hid hbl3
  clear hrow3 hbl3 HO3 HG3 HRA1 HRA HBL HB1
  refine (of_any a1 a2 C N c3 bsA w3 byC hc3).mono ?_
  rintro e w4 ⟨rfl, hb4⟩
  have hbl4 := HBL3.out.trans (hb4.mono HBL3.out.size)
  have HBL4 := Lib.hid hbl4
  clear hbl4 hb4 byC
  have HNIL := Lib.hid nil_any
  clear HOF
  generalize ofI a1 a2 bsA = X at *
  go_wp2_with (first
    | (go_at_call 26; refine (HNIL.out _ _ _).mono ?_; rintro e w5 ⟨rfl, hb5⟩; have HB5 := Lib.hid hb5; clear hb5)
    | (go_at_call 29; refine (HMX.out _ _).mono ?_; rintro e w6 ⟨rfl, rfl⟩)
    | (go_at_call 30; refine (HAW.out _).mono ?_; rintro e w7 ⟨rfl, hb7⟩; have HB7 := Lib.hid hb7; clear hb7))
  go_ret
  exact ⟨rfl, (HBL4.out.trans (HB5.out.mono HBL4.out.size)).trans (HB7.out.mono (Nat.le_trans HBL4.out.size HB5.out.size))⟩

/-! ### THE ROW's STEP: WRITTEN OUT: LEAVE IT -/
set_option maxRecDepth 100000 in
theorem lifted (os : Os) (started : os.Started) (H : Type) (enc : TypeId × Value → H) :
    ReturnsInHanded {} Try.checked os 12 .any (Rows.fingerprintLengthSpec.pre6 enc Try.prog Try.f12 Rows.fingerprintLengthRow.domain false) (Rows.fingerprintLengthSpec.post enc Try.prog Try.f12 false true false false) := by
  refine returnsInHanded_of_change (C := Try.checked) own started (by kernel_rfl) Try.func12
    (ChangeSpec.witness6 (enc := enc) (C := Try.checked) false ⟨#[], #[.slice none 0 0, .int .u64 0, .int .i64 0], []⟩ 8 (by kernel_rfl) (by kernel_rfl) (by kernel_rfl) (by kernel_rfl)) ?_
  intro W base args ds gs before hval0 hW hcnd _
  have hval : ∀ (j : Nat) t v, Try.f12.params[j]? = some t → args[j]? = some v → Value.okWide Try.prog W .any base t v := hval0
  have hW' := hW
  obtain ⟨p, q, hA0, hV, rfl, hfz, hnd⟩ := hW
  have hA : DataW.TrodAll enc Try.prog W 0 (fun _ => true) true Try.f12.params.toList args.toList ds p := hA0
  rw [Try.params12] at hA hval
  obtain ⟨v0, vs0, d0, ds0, p0, q0, hargs, rfl, rfl, h0, r0⟩ := trodAll_cons hA
  obtain ⟨v1, vs1, d1, ds1, p1, q1, rfl, rfl, rfl, h1, r1⟩ := trodAll_cons r0
  obtain ⟨v2, vs2, d2, ds2, p2, q2, rfl, rfl, rfl, h2, r2⟩ := trodAll_cons r1
  obtain ⟨rfl, rfl, rfl⟩ := trodAll_nil r2
  obtain rfl : args = #[v0, v1, v2] := by cases args; simp_all
  obtain ⟨rfl, rfl⟩ := trodVars_none hV
  obtain ⟨a0, len0, cap0, rfl⟩ := okWide_slice Try.underlying23 (hval 0 23 v0 rfl rfl)
  have k0 := h0
  have lt0 : ∀ x ∈ p0, x.block < W.heap.size := by obtain ⟨m, hm⟩ := k0; exact DataW.trod_lt m _ _ _ hm
  obtain ⟨z0, w0⟩ : ∃ zs, IsRow .i64 W a0 len0 cap0 zs := by
    obtain ⟨fuel, hf⟩ := h0
    rcases open_ints Try.underlying23 Try.underlying3 (by kernel_rfl) hf with ⟨hcs, _⟩ | ⟨x, l, c, zs, hcs, _, hl, hm, hz, _, hcell, hwz⟩
    · simp [Value.cells] at hcs
      obtain ⟨rfl, rfl, rfl⟩ := hcs
      exact ⟨[], .inl ⟨rfl, rfl, rfl, rfl⟩⟩
    · simp [Value.cells] at hcs
      obtain ⟨rfl, rfl, rfl⟩ := hcs
      exact ⟨zs, .inr ⟨_, rfl, hl, hm, by simpa using hz, hcell, hwz⟩⟩
  obtain ⟨a1, rfl, rfl, rfl, w1⟩ := open_int Try.underlying40 (hval 1 40 v1 rfl rfl) h1
  obtain ⟨a2, rfl, rfl, rfl, w2⟩ := open_int Try.underlying3 (hval 2 3 v2 rfl rfl) h2
  clear hA0 hval0
  refine (walk a0 len0 cap0 z0 a1 a2 W w0 w1 w2).mono fun e W' ⟨he, bel⟩ => ?_
  subst he
  exact ⟨_, rfl, _, _, _, [], _, [], hW', trodAll_mk1 (shut_bool Try.underlying4 _), (trodAll_cons_mk (Below.trod laidOut (by kernel_rfl) (of_decide_eq_true (by kernel_rfl)) k0 bel lt0) (trodAll_cons_mk (shut_int Try.underlying40 w1) (trodAll_cons_mk (shut_int Try.underlying3 w2) trodAll_mk0))), rfl, bel.frame _, fun h => by cases h⟩

theorem over : Rows.fingerprintLengthRow.holds Try.pinned (OpenSpec.ofChange Rows.fingerprintLengthSpec) :=
  OpenClaim.holds_of_wide 12 Try.f12 rfl rfl rfl rfl rfl rfl rfl ⟨rfl, rfl, rfl, rfl, rfl⟩ rfl rfl rfl rfl rfl (by kernel_rfl) Try.func12 (by kernel_rfl)
    (of_decide_eq_true (by kernel_rfl)) (by unfold Func.isWrapper; first | (rw [if_pos (by decide +kernel)]; kernel_rfl) | (rw [if_neg (by decide +kernel)]; exact ⟨rfl, rfl⟩))
    (fun os started H enc _ => lifted os started H enc)

/-- ████ THE STATEMENT ████ -/
theorem proved : Rows.FingerprintLengthSaid := over
#print axioms proved
end Go.Proofs.Ytidpkkekoldkgaa.fingerprintLength
