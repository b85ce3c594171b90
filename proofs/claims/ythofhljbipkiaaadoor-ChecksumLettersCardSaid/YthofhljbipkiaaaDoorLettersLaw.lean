/-
  The Go function leakresponselaw03.ChecksumLetters returns true for every list of numbers and every three numbers, and leaves what was there as it was; no conditions.
-/
import Derived.Test.YthofhljbipkiaaaDoorCkN
import Derived.Test.YthofhljbipkiaaaDoorRows
import Derived.Test.YthofhljbipkiaaaDoorCards
import Derived.Test.YthofhljbipkiaaaDoorTie
import Derived.SevenTiedAt
import Derived.WalkKit
import Derived.ProofKit
import Derived.OpenShut
import Derived.ShutString
import Derived.ChangeOld
import Derived.Below
namespace Go.Proofs.YthofhljbipkiaaaDoor.checksumLetters
open Go.ChangeShapes Go.WideShapes Go.ChangeAt Go.RowKit
open Go.ChangeMaps (open_string shut_string)
open Go.Proofs.YthofhljbipkiaaaDoor.Tp
open Go.Proofs.YthofhljbipkiaaaDoor.Ck
set_option linter.unusedVariables false

theorem low (n : Int) (k : Nat) (hk : 0 < k) : ∃ m : Nat, n % (k : Int) = (m : Int) ∧ m < k :=
  ⟨(n % (k : Int)).toNat, (Int.toNat_of_nonneg (Int.emod_nonneg _ (by omega))).symm, by
    have := Int.emod_lt_of_pos n (show (0 : Int) < (k : Int) by omega)
    have := Int.emod_nonneg n (show (k : Int) ≠ 0 by omega)
    omega⟩

theorem compl_dig {c : Int} {bs : List Nat} (h : Dig false bs) (h1 : 1 ≤ bs.length) : compl c bs = true := by
  unfold compl
  rw [h.1, h.2 rfl, show decide (1 ≤ bs.length) = true by simpa using h1]
  simp

theorem letS (bs : List Nat) : ({ data := #[65] } : ByteArray) ++ strB bs = strB (65 :: bs) := by
  rw [show ({ data := #[65] } : ByteArray) = strB [65] from rfl, strB_append]
  rfl

theorem tail2_len (bs : List Nat) : (tailC 2 bs).length = 2 := by
  unfold tailC
  rw [if_neg (by omega), if_pos rfl]
  rfl

theorem remS_zero (c : Nat) (h : isD c = false) : remS c 0 = (c - 65 + 10) % 97 := by
  unfold remS
  rw [h, if_neg (by decide), Nat.zero_mul, Nat.zero_add]

theorem setup (bs : List Nat) (hdg : Dig true bs) (b : Nat) (hb1 : 66 ≤ b) (hb2 : b ≤ 90) : ∃ S X : ByteArray, ({ data := #[65] } : ByteArray) ++ strB bs = S ∧ S.size = bs.length + 1 ∧ X.size = S.size + 2 ∧
    cplV 2 S = .tuple #[.string X, .int .i64 0] ∧ mod97 (nums X) = true ∧ mod97 (nums (strB ((nums X).set 0 b))) = false ∧ (strB ((nums X).set 0 b)).size = X.size := by
  have hdc : ∀ x ∈ (65 :: bs), x ≤ 255 := fun x hx => by
    rcases List.mem_cons.1 hx with rfl | hx
    · decide
    · exact hdg.le x hx
  have hn : nums (strB (65 :: bs)) = 65 :: bs := nums_strB hdc
  have hall : (65 :: bs).all isDC = true := by
    rw [List.all_cons, hdg.1]
    rfl
  have hcm : compl 2 (nums (strB (65 :: bs))) = true := by
    rw [hn, show compl 2 (65 :: bs) = (decide (1 ≤ (65 :: bs).length) && (65 :: bs).all isDC) from rfl, hall]
    simp
  have hsz : (strB (65 :: bs)).size = bs.length + 1 := size_strB
  obtain ⟨X, hX, hle, hle2, hex, hh, hnx⟩ := complete_ok (c := 2) (by omega) (by omega) hcm
  have hnx := hnx (by omega)
  rw [hn] at hnx
  have hXs : X.size = (strB (65 :: bs)).size + 2 := by
    rw [← nums_length X, hnx, List.length_append, hsz, tail2_len]
    rfl
  have hmx : mod97 (nums X) = true := hh
  have hXl : 0 < (nums X).length := by rw [nums_length]; omega
  have hoff : mod97 ((nums X).set 0 b) = false := by
    refine mod97_set hmx hXl ?_
    rw [hnx]
    show remS b 0 ≠ remS 65 0
    rw [remS_zero b (by simp [isD]; omega), remS_zero 65 rfl]
    omega
  have hle3 : ∀ x ∈ (nums X).set 0 b, x ≤ 255 := fun x hx => by
    rcases List.mem_or_eq_of_mem_set hx with hx | rfl
    · rw [hnx] at hx
      rcases List.mem_append.1 hx with hx | hx
      · exact hdc x hx
      · exact tail_le x hx
    · omega
  refine ⟨_, X, letS bs, hsz, hXs, hX, hmx, ?_, by rw [size_strB, List.length_set, nums_length]⟩
  rw [nums_strB hle3]
  exact hoff

set_option maxRecDepth 100000 in
set_option maxHeartbeats 4000000 in
theorem walk (a0 : Option Addr) (len0 cap0 : Nat) (z0 : List Int) (a1 : Int) (a2 : Int) (a3 : Int) (w : World) (w0 : IsRow .i64 w a0 len0 cap0 z0) (w1 : (Lit.int .i64 a1).wf = true) (w2 : (Lit.int .i64 a2).wf = true) (w3 : (Lit.int .i64 a3).wf = true) :
    Calls Tryd.prog 7 #[.slice a0 len0 cap0, .int .i64 a1, .int .i64 a2, .int .i64 a3] w fun e w' => e = .returned (.bool true) ∧ Below w.heap.size w w' := by
  have HTP := Lib.hid (tape_new w0)
  have HBX := Lib.hid (box_below w (.cells #[.slice a0 len0 cap0, .int .i64 0] 25))
  clear w0 w1 w2 w3
  obtain ⟨m, hm, hm1⟩ := low a1 8 (by decide)
  obtain ⟨q, hq, hq1⟩ := low a3 256 (by decide)
  have e1 : bits .and .i64 a1 7 = (m : Int) := (and7 a1).trans hm
  have e2 : bits .and .i64 a3 255 = (q : Int) := (and255 a3).trans hq
  obtain ⟨r, hr⟩ : ∃ r, q % 25 = r := ⟨_, rfl⟩
  have e3 : (q : Int).tmod 25 = (r : Int) := by rw [Int.tmod_eq_emod_of_nonneg (by omega)]; omega
  have e3b : (q : Int) % 25 = (r : Int) := by omega
  have hr1 : r ≤ 24 := by omega
  obtain ⟨d, hd⟩ : ∃ d, 1 + r = d := ⟨_, rfl⟩
  have e4 : (1 : Int) + (r : Int) = (d : Int) := by omega
  have e4w : IntKind.i64.wrap (d : Int) = (d : Int) := IntWalk.i64_in _ (by omega)
  have e4u : IntKind.u8.wrap (d : Int) = (d : Int) := by simp [IntKind.wrap, IntKind.bits, IntKind.signed]; omega
  obtain ⟨b, hb⟩ : ∃ b, 65 + d = b := ⟨_, rfl⟩
  have e5 : (65 : Int) + (d : Int) = (b : Int) := by omega
  have e5u : IntKind.u8.wrap (b : Int) = (b : Int) := by simp [IntKind.wrap, IntKind.bits, IntKind.signed]; omega
  have hb1 : 66 ≤ b := by omega
  have hb2 : b ≤ 90 := by omega
  clear hm hq hr hd hb
  go_enter Tryd.func7, Tryd.ntmps7
  go_wp2_with fail
  refine (dig_any true w.heap.size m _ HTP.out (by simp) (by omega)).mono ?_
  rintro e w1 ⟨bs, hl, hdg, rfl, hg, ht⟩
  have hb1' : Below w.heap.size w w1 := HBX.out.grown hg HBX.out.size (fun k e => by cases e; exact Nat.le_refl _)
  have HB1 := Lib.hid hb1'
  have hs7 : ¬ 9223372036854775807 < 1 + (strB bs).size := by rw [size_strB]; omega
  have hs8 : ¬ 9223372036854775807 < ({ data := #[65] } : ByteArray).size + (strB bs).size := hs7
  clear hg ht hb1'
  obtain ⟨S, X, hS, hss, hXs, hX, hmx, hoff, hs3⟩ := setup bs hdg b hb1 hb2
  have hs6 : S.size ≤ 20 := by omega
  have hX6 : X.size ≤ 100000 := by omega
  have HX := Lib.hid hX
  have HMX := Lib.hid hmx
  have HOFF := Lib.hid hoff
  have HS3 := Lib.hid (show (strB ((nums X).set 0 b)).size ≤ 100000 by rw [hs3]; exact hX6)
  have hq1 : ((X.size : Int) == (S.size : Int) + 2) = true := by rw [beq_iff_eq]; omega
  have hq2 : ((X.size : Int) != (S.size : Int) + 2) = false := by rw [bne, hq1]; rfl
  have hpos : 0 < X.size := by omega
  clear hX hmx hoff hs3 hXs hdg hl hss
  go_wp2_with (first
    | (go_at_call 25; refine (complete_any _ _ _ (by omega)).mono ?_; rintro e w2 ⟨rfl, hb2⟩; rw [HX.out]; have HB2 := Lib.hid (HB1.out.trans (hb2.mono HB1.out.size)); clear hb2))
  refine (mod97_any _ _ hX6).mono ?_
  rintro e w3 ⟨rfl, rfl⟩
  rw [HMX.out]
  obtain ⟨W, c, hcv, hfr, hcl, hbk, hbw, hbs⟩ := odd_bytes X w2 0 b hpos (by omega)
  have HBW := Lib.hid (HB2.out.trans (hbs.mono HB2.out.size))
  clear hbw hbs
  go_wp2_with (first
    | (go_at_call 13; refine (mod97_any _ _ HS3.out).mono ?_; rintro e w4 ⟨rfl, rfl⟩; rw [HOFF.out])
    | (go_at_call 23; refine (awake_any _).mono ?_; rintro e w4 ⟨rfl, hb4⟩; have HB4 := Lib.hid (HBW.out.trans (hb4.mono HBW.out.size)); clear hb4))
  go_ret
  exact ⟨rfl, HB4.out⟩

/-! ### THE ROW's STEP: WRITTEN OUT: LEAVE IT -/
set_option maxRecDepth 100000 in
theorem lifted (os : Os) (started : os.Started) (H : Type) (enc : TypeId × Value → H) :
    ReturnsInHanded {} Tryd.checked os 7 .any (fun w args => (Rows.checksumLettersSpec.pre enc Tryd.prog Tryd.f7 [] false w args ∧ laidMetH Tryd.prog laidL w) ∧ sizedMet enc Tryd.prog Tryd.f7 (OpenSpec.ofChange Rows.checksumLettersSpec) false w args) (Rows.checksumLettersSpec.post enc Tryd.prog Tryd.f7 false true false false) := by
  refine returnsInHanded_of_change_and (C := Tryd.checked) (X := fun w _ => laidMetH Tryd.prog laidL w) (fun _ _ _ hh h => h.of_heap hh) own started (by kernel_rfl) Tryd.func7
    (ChangeSpec.witness_shaped (enc := enc) (C := Tryd.checked) (os := os) (X := fun w _ => laidMetH Tryd.prog laidL w) false (World.doorLaid Tryd.prog 400 os) #[.slice none 0 0, .int .i64 0, .int .i64 0, .int .i64 0] 8 rfl (World.shaped_of_RefB (by kernel_rfl) (by kernel_rfl)) (by kernel_rfl) (by kernel_rfl) (by kernel_rfl) (door_met os _)) ?_
  intro W base args ds gs before hval0 hW _ _ hL _
  have hval : ∀ (j : Nat) t v, Tryd.f7.params[j]? = some t → args[j]? = some v → Value.okWide Tryd.prog W .any base t v := hval0
  have hW' := hW
  obtain ⟨p, q, hA0, hV, rfl, hfz, hnd⟩ := hW
  have hA : DataW.TrodAll enc Tryd.prog W 0 (fun _ => true) true Tryd.f7.params.toList args.toList ds p := hA0
  rw [Tryd.params7] at hA hval
  obtain ⟨v0, vs0, d0, ds0, p0, q0, hargs, rfl, rfl, h0, r0⟩ := trodAll_cons hA
  obtain ⟨v1, vs1, d1, ds1, p1, q1, rfl, rfl, rfl, h1, r1⟩ := trodAll_cons r0
  obtain ⟨v2, vs2, d2, ds2, p2, q2, rfl, rfl, rfl, h2, r2⟩ := trodAll_cons r1
  obtain ⟨v3, vs3, d3, ds3, p3, q3, rfl, rfl, rfl, h3, r3⟩ := trodAll_cons r2
  obtain ⟨rfl, rfl, rfl⟩ := trodAll_nil r3
  obtain rfl : args = #[v0, v1, v2, v3] := by cases args; simp_all
  obtain ⟨rfl, rfl⟩ := trodVars_none hV
  obtain ⟨a0, len0, cap0, rfl⟩ := okWide_slice Tryd.underlying22 (hval 0 22 v0 rfl rfl)
  have k0 := h0
  have lt0 : ∀ x ∈ p0, x.block < W.heap.size := by obtain ⟨m, hm⟩ := k0; exact DataW.trod_lt m _ _ _ hm
  obtain ⟨z0, w0⟩ : ∃ zs, IsRow .i64 W a0 len0 cap0 zs := by
    obtain ⟨fuel, hf⟩ := h0
    rcases open_ints Tryd.underlying22 Tryd.underlying3 (by kernel_rfl) hf with ⟨hcs, _⟩ | ⟨x, l, c, zs, hcs, _, hl, hm, hz, _, hcell, hwz⟩
    · simp [Value.cells] at hcs
      obtain ⟨rfl, rfl, rfl⟩ := hcs
      exact ⟨[], .inl ⟨rfl, rfl, rfl, rfl⟩⟩
    · simp [Value.cells] at hcs
      obtain ⟨rfl, rfl, rfl⟩ := hcs
      exact ⟨zs, .inr ⟨_, rfl, hl, hm, by simpa using hz, hcell, hwz⟩⟩
  obtain ⟨a1, rfl, rfl, rfl, w1⟩ := open_int Tryd.underlying3 (hval 1 3 v1 rfl rfl) h1
  obtain ⟨a2, rfl, rfl, rfl, w2⟩ := open_int Tryd.underlying3 (hval 2 3 v2 rfl rfl) h2
  obtain ⟨a3, rfl, rfl, rfl, w3⟩ := open_int Tryd.underlying3 (hval 3 3 v3 rfl rfl) h3
  clear hA0 hval0
  refine (walk a0 len0 cap0 z0 a1 a2 a3 W w0 w1 w2 w3).mono fun e W' ⟨he, bel⟩ => ?_
  subst he
  exact ⟨_, rfl, _, _, _, [], _, [], hW', trodAll_mk1 (shut_bool Tryd.underlying4 _), (trodAll_cons_mk (Below.trod laidOut (by kernel_rfl) (of_decide_eq_true (by kernel_rfl)) k0 bel lt0) (trodAll_cons_mk (shut_int Tryd.underlying3 w1) (trodAll_cons_mk (shut_int Tryd.underlying3 w2) (trodAll_cons_mk (shut_int Tryd.underlying3 w3) trodAll_mk0)))), rfl, bel.frame _, fun h => by cases h⟩

theorem over : Rows.checksumLettersRow.holds Tryd.pinned (OpenSpec.ofChange Rows.checksumLettersSpec) :=
  OpenClaim.holds_of_wide 7 Tryd.f7 rfl rfl rfl rfl rfl rfl rfl ⟨rfl, rfl, rfl, rfl, rfl⟩ rfl rfl rfl rfl rfl (by kernel_rfl) Tryd.func7 (by kernel_rfl)
    (of_decide_eq_true (by kernel_rfl)) (by unfold Func.isWrapper; first | (rw [if_pos (by decide +kernel)]; kernel_rfl) | (rw [if_neg (by decide +kernel)]; exact ⟨rfl, rfl⟩))
    (fun os started H enc _ => lifted os started H enc)

/-- ████ THE STATEMENT ████ -/
theorem proved : Rows.ChecksumLettersSaid := over
#print axioms proved

/-- ████ THE TIED CARD ████ -/
theorem card : Rows.ChecksumLettersCardSaid :=
  Claim7.holds_tied_plain_at .later [] [.data, .data, .data] true (true, "4935cba83d4df52bd0d5a43570ed45bb14e30fd3ba9468868efeb6f4e4a7b30a") false
    proved (fun _ h => by cases h) (by kernel_rfl) (fun _ h => by cases h) checksumLetters_row_tie rfl ⟨rfl, rfl⟩ (by kernel_rfl) rfl
    (fun f fn hf hfn => by
      obtain rfl : f = 7 := Option.some.inj ((show Tryd.prog.funcNamed "leakresponse/leakresponselaw03.ChecksumLetters" = some 7 by kernel_rfl).symm.trans hf) |>.symm
      obtain rfl : fn = Tryd.f7 := (Option.some.inj (Tryd.func7.symm.trans hfn)).symm
      exact ⟨by kernel_rfl, fun j t ht => by
        rw [Tryd.params7] at ht
        have hm : t ∈ [22, 3, 3, 3] := by simpa using Array.mem_of_getElem? ht
        have hall : ([22, 3, 3, 3].all fun u => !Tryd.prog.wantsStandIn u) = true := by kernel_rfl
        exact (show Tryd.prog.wantsStandIn t = false by simpa using List.all_eq_true.1 hall t hm)⟩)
    (by kernel_rfl)
#print axioms card
end Go.Proofs.YthofhljbipkiaaaDoor.checksumLetters
