/-
  The Go function leakresponselaw03.ChecksumTells returns true for every list of numbers and every three numbers, and leaves what was there as it was; no conditions.
-/
import Derived.Test.YthofhljbipkiaaaDoorCkN
import Derived.Test.YthofhljbipkiaaaDoorRows
import Derived.Test.YthofhljbipkiaaaDoorCards
import Derived.Test.YthofhljbipkiaaaDoorTie
import Derived.SevenTiedAt
import Derived.WalkKit
import Derived.ProofKit
import Derived.OpenShut
import Derived.ShutString
import Derived.ChangeOld
import Derived.Below
namespace Go.Proofs.YthofhljbipkiaaaDoor.checksumTells
open Go.ChangeShapes Go.WideShapes Go.ChangeAt Go.RowKit
open Go.ChangeMaps (open_string shut_string)
open Go.Proofs.YthofhljbipkiaaaDoor.Tp
open Go.Proofs.YthofhljbipkiaaaDoor.Ck
set_option linter.unusedVariables false

theorem low (n : Int) (k : Nat) (hk : 0 < k) : ∃ m : Nat, n % (k : Int) = (m : Int) ∧ m < k :=
  ⟨(n % (k : Int)).toNat, (Int.toNat_of_nonneg (Int.emod_nonneg _ (by omega))).symm, by
    have := Int.emod_lt_of_pos n (show (0 : Int) < (k : Int) by omega)
    have := Int.emod_nonneg n (show (k : Int) ≠ 0 by omega)
    omega⟩

theorem compl_dig {c : Int} {bs : List Nat} (h : Dig false bs) (h1 : 1 ≤ bs.length) : compl c bs = true := by
  unfold compl
  rw [h.1, h.2 rfl, show decide (1 ≤ bs.length) = true by simpa using h1]
  simp

theorem nb_lt2 (s : ByteArray) {bs : List Nat} (h : bs = nums s) (k : Nat) : nb s k = bs.getD k 0 := by
  subst h
  rfl

theorem remS_ne {a b r : Nat} (ha : isD a = true) (hb : isD b = true) (hne : b ≠ a) : remS b r ≠ remS a r := by
  unfold remS
  rw [ha, hb, if_pos rfl, if_pos rfl]
  simp only [isD, decide_eq_true_eq] at ha hb
  omega

/-- One digit is another: the check sum c does not hold. -/
theorem setup (c : Nat) (hc1 : 1 ≤ c) (hc3 : c ≤ 3) (s : ByteArray) (hd : Dig false (nums s)) (h1 : 1 ≤ s.size) (k z b : Nat) (hk : k < s.size) (hz : nb s k = z) (hb : isD b = true) (hne : b ≠ z) :
    ∃ X : ByteArray, cplV (c : Int) s = .tuple #[.string X, .int .i64 0] ∧ s.size < X.size ∧ X.size ≤ s.size + 8 ∧ nb X k = z ∧ holds (c : Int) (nums (strB ((nums X).set k b))) = false ∧ (strB ((nums X).set k b)).size = X.size := by
  have hcm : compl (c : Int) (nums s) = true := compl_dig hd (by rw [nums_length]; exact h1)
  obtain ⟨X, hX, hle, hle2, hex, hh, hnx⟩ := complete_ok (c := (c : Int)) (by omega) (by omega) hcm
  have hnx := hnx (by omega)
  have htl := tail_len (c := (c : Int)) (bs := nums s)
  have hXs : X.size = s.size + (tailC (c : Int) (nums s)).length := by
    rw [← nums_length X, hnx, List.length_append, nums_length]
  have hXl : k < (nums X).length := by rw [nums_length]; omega
  have hsl : k < (nums s).length := by rw [nums_length]; exact hk
  have hg : (nums X).getD k 0 = (nums s).getD k 0 := by rw [hnx, getD_app_lt hsl]
  have hzz : (nums s).getD k 0 = z := hz
  have hzd : isD z = true := by rw [← hzz]; exact all_at (hd.2 rfl) hsl
  have hb255 : b ≤ 255 := by simp only [isD, decide_eq_true_eq] at hb; omega
  have hdle : ∀ x ∈ nums s, x ≤ 255 := hd.le
  have hle3 : ∀ x ∈ (nums X).set k b, x ≤ 255 := fun x hx => by
    rcases List.mem_or_eq_of_mem_set hx with hx | rfl
    · rw [hnx] at hx
      rcases List.mem_append.1 hx with hx | hx
      · exact hdle x hx
      · exact tail_le x hx
    · exact hb255
  refine ⟨X, hX, by omega, hle2, by rw [nb_lt2 X rfl, hg, hzz], ?_, by rw [size_strB, List.length_set, nums_length]⟩
  rw [nums_strB hle3]
  rcases (by omega : c = 1 ∨ c = 2 ∨ c = 3) with rfl | rfl | rfl
  · have hl : luhn (nums X) = true := hh
    exact luhn_set hl hXl hb (by rw [hg, hzz]; exact hne)
  · have hl : mod97 (nums X) = true := hh
    exact mod97_set hl hXl (by rw [hg, hzz]; exact remS_ne hzd hb hne)
  · rw [hnx]
    exact holds3_set hdle hb255 hsl (by rw [hzz]; exact hne)

theorem setup4 (s : ByteArray) (hd : Dig false (nums s)) (h1 : 1 ≤ s.size) (p : Nat) (hp : p ≤ 15) :
    ∃ (X : ByteArray) (l b : Nat), cplV 4 s = .tuple #[.string X, .int .i64 0] ∧ X.size = s.size + 1 ∧ l < 26 ∧ nb X s.size = 65 + l ∧ b = 65 + (l + 1 + p) % 26 ∧ holds 4 (nums (s ++ strB [b])) = false := by
  have hcm : compl 4 (nums s) = true := compl_dig hd (by rw [nums_length]; exact h1)
  obtain ⟨X, hX, hle, hle2, hex, hh, hnx⟩ := complete_ok (c := 4) (by omega) (by omega) hcm
  have hnx := hnx (by omega)
  have htl : tailC 4 (nums s) = [65 + letTo (nums s) (nums s).length] := rfl
  rw [htl] at hnx
  have hl := letTo_lt (nums s) (nums s).length
  have hll := nums_length s
  have hXs : X.size = s.size + 1 := by rw [← nums_length X, hnx, List.length_append, nums_length]; rfl
  refine ⟨X, letTo (nums s) (nums s).length, _, hX, hXs, hl, ?_, rfl, ?_⟩
  · rw [nb_lt2 X rfl, hnx, ← hll, getD_snoc_eq]
  · rw [nums_append, nums_strB (by intro b hb; simp at hb; omega)]
    exact holds4_off (by rw [nums_length]; exact h1) (by omega)

set_option maxRecDepth 100000 in
set_option maxHeartbeats 4000000 in
theorem walk (a0 : Option Addr) (len0 cap0 : Nat) (z0 : List Int) (a1 : Int) (a2 : Int) (a3 : Int) (w : World) (w0 : IsRow .i64 w a0 len0 cap0 z0) (w1 : (Lit.int .i64 a1).wf = true) (w2 : (Lit.int .i64 a2).wf = true) (w3 : (Lit.int .i64 a3).wf = true) :
    Calls Tryd.prog 6 #[.slice a0 len0 cap0, .int .i64 a1, .int .i64 a2, .int .i64 a3] w fun e w' => e = .returned (.bool true) ∧ Below w.heap.size w w' := by
  have HTP := Lib.hid (tape_new w0)
  have HBX := Lib.hid (box_below w (.cells #[.slice a0 len0 cap0, .int .i64 0] 25))
  clear w0 w1 w2 w3
  obtain ⟨m, hm, hm1⟩ := low a1 16 (by decide)
  obtain ⟨j, hj, hj1⟩ := low a2 256 (by decide)
  obtain ⟨q, hq, hq1⟩ := low a3 256 (by decide)
  obtain ⟨p, hp, hp1⟩ := low a3 16 (by decide)
  have e1 : bits .and .i64 a1 15 = (m : Int) := (and15i a1).trans hm
  have e2 : bits .and .i64 a2 255 = (j : Int) := (and255 a2).trans hj
  have e3 : bits .and .i64 a3 255 = (q : Int) := (and255 a3).trans hq
  have e4 : bits .and .i64 a3 15 = (p : Int) := (and15i a3).trans hp
  obtain ⟨N, hN⟩ : ∃ N, 2 + m = N := ⟨_, rfl⟩
  have e5 : (2 : Int) + (m : Int) = (N : Int) := by omega
  have e5w : IntKind.i64.wrap (N : Int) = (N : Int) := IntWalk.i64_in _ (by omega)
  have hN1 : 2 ≤ N := by omega
  have hN2 : N ≤ 17 := by omega
  obtain ⟨r, hr⟩ : ∃ r, q % 9 = r := ⟨_, rfl⟩
  have e6 : (q : Int).tmod 9 = (r : Int) := by rw [Int.tmod_eq_emod_of_nonneg (by omega)]; omega
  have e6b : (q : Int) % 9 = (r : Int) := by omega
  have hr1 : r ≤ 8 := by omega
  clear hm hj hq hp hN hr
  go_enter Tryd.func6, Tryd.ntmps6
  go_wp2_with fail
  refine (dig_any false w.heap.size N _ HTP.out (by simp) (by omega)).mono ?_
  rintro e w1 ⟨bs, hl, hdg, rfl, hg, ht⟩
  have hb1' : Below w.heap.size w w1 := HBX.out.grown hg HBX.out.size (fun k e => by cases e; exact Nat.le_refl _)
  have HB1 := Lib.hid hb1'
  have hss : (strB bs).size = N := by rw [size_strB, hl]
  have hdn : Dig false (nums (strB bs)) := by rw [nums_strB hdg.le]; exact hdg
  clear hg ht hb1' hl hdg
  generalize strB bs = s at *
  obtain ⟨k, hk⟩ : ∃ k, j % s.size = k := ⟨_, rfl⟩
  have hks : k < s.size := by rw [← hk]; exact Nat.mod_lt _ (by omega)
  have e7 : (j : Int).tmod (s.size : Int) = (k : Int) := by rw [Int.tmod_eq_emod_of_nonneg (by omega), ← hk]; exact (Int.natCast_emod _ _).symm
  have e7b : (j : Int) % (s.size : Int) = (k : Int) := by rw [← hk]; exact (Int.natCast_emod _ _).symm
  have hzd : isD (nb s k) = true := all_at (hdn.2 rfl) (by rw [nums_length]; exact hks)
  obtain ⟨z, hz⟩ : ∃ z, nb s k = z := ⟨_, rfl⟩
  rw [hz] at hzd
  simp only [isD, decide_eq_true_eq] at hzd
  obtain ⟨y, hy⟩ : ∃ y : Nat, z = 48 + y := ⟨z - 48, by omega⟩
  have hy9 : y ≤ 9 := by omega
  obtain ⟨u, hu⟩ : ∃ u, (y + 1 + r) % 10 = u := ⟨_, rfl⟩
  obtain ⟨y1, hy1⟩ : ∃ y1, y + 1 = y1 := ⟨_, rfl⟩
  obtain ⟨t, ht⟩ : ∃ t, y1 + r = t := ⟨_, rfl⟩
  obtain ⟨b, hb⟩ : ∃ b, 48 + u = b := ⟨_, rfl⟩
  have f1 : (z : Int) - 48 = (y : Int) := by omega
  have f1u : IntKind.u8.wrap (y : Int) = (y : Int) := by simp [IntKind.wrap, IntKind.bits, IntKind.signed]; omega
  have f1w : IntKind.i64.wrap (y : Int) = (y : Int) := IntWalk.i64_in _ (by omega)
  have f2 : (y : Int) + 1 = (y1 : Int) := by omega
  have f2w : IntKind.i64.wrap (y1 : Int) = (y1 : Int) := IntWalk.i64_in _ (by omega)
  have f3 : (y1 : Int) + (r : Int) = (t : Int) := by omega
  have f3w : IntKind.i64.wrap (t : Int) = (t : Int) := IntWalk.i64_in _ (by omega)
  have f4 : (t : Int).tmod 10 = (u : Int) := by rw [Int.tmod_eq_emod_of_nonneg (by omega)]; omega
  have f4b : (t : Int) % 10 = (u : Int) := by omega
  have f4u : IntKind.u8.wrap (u : Int) = (u : Int) := by simp [IntKind.wrap, IntKind.bits, IntKind.signed]; omega
  have f5 : (48 : Int) + (u : Int) = (b : Int) := by omega
  have f5u : IntKind.u8.wrap (b : Int) = (b : Int) := by simp [IntKind.wrap, IntKind.bits, IntKind.signed]; omega
  have hbd : isD b = true := by simp [isD]; omega
  have hbz : b ≠ z := by omega
  have hb255 : b ≤ 255 := by omega
  have HSET := Lib.hid (fun c h1 h3 => setup c h1 h3 s hdn (by omega) k z b hks hz hbd hbz)
  have H4 := Lib.hid (setup4 s hdn (by omega) p (by omega))
  have hs6 : s.size ≤ 20 := by omega
  have hs0 : s.size ≠ 0 := by omega
  have hs0i : ¬ (s.size : Int) = 0 := by omega
  clear hbd hbz hz hdn hzd hk hy hu hy1 ht hb hss
  go_wp2_with fail
  go_loopw [12] (fun i wr => Below w.heap.size w wr ∧ ∃ c : Nat, 1 ≤ c ∧ c ≤ 4 ∧ i = .int .i64 (c : Int)) (fun i _ => 4 - (intOf i).toNat)
  case atStart => exact ⟨HB1.out, 1, by omega, by omega, rfl⟩
  case round =>
    obtain ⟨hbr, c, hc1, hc4, rfl⟩ := hrel
    have HBR := Lib.hid hbr
    clear hbr
    by_cases hc3 : c ≤ 3
    · obtain ⟨X, hX, hlt, hle, hnz, hh, hsz⟩ := HSET.out c hc1 hc3
      have hX6 : X.size ≤ 100000 := by omega
      have hkX : k < X.size := by omega
      have hnb := nb_at X k hkX
      rw [hnz] at hnb
      have hdle : decide ((X.size : Int) ≤ (s.size : Int)) = false := by simp; omega
      have HX := Lib.hid hX
      have HH := Lib.hid hh
      have HSZ := Lib.hid (show (strB ((nums X).set k b)).size ≤ 100000 by omega)
      clear hX hh hsz hnz
      go_wp2_with fail
      refine (complete_any _ _ _ (by omega)).mono ?_
      rintro e w2 ⟨rfl, hb2⟩
      rw [HX.out]
      have HB2 := Lib.hid (HBR.out.trans (hb2.mono HBR.out.size))
      obtain ⟨W, cc, hcv, hfr, hcl, hbk, hbw, hbs⟩ := odd_bytes X w2 k b hkX hb255
      have HBW := Lib.hid (HB2.out.trans (hbs.mono HB2.out.size))
      clear hb2 hbw hbs
      go_wp2_with (first
        | (go_at_call 19; refine (holds_any _ _ _ HSZ.out).mono ?_; rintro e w4 ⟨rfl, hb4⟩; rw [HH.out]; have HB4 := Lib.hid (HBW.out.trans (hb4.mono HBW.out.size)); clear hb4))
      exact ⟨⟨HB4.out, c + 1, by omega, by omega, by go_num⟩, by simp [intOf]; omega⟩
    · obtain rfl : c = 4 := by omega
      obtain ⟨X, l, b4, hX, hXs, hl, hnz, hb4, hh⟩ := H4.out
      have hX6 : X.size ≤ 100000 := by omega
      have hkX : s.size < X.size := by omega
      have hnb := nb_at X s.size hkX
      rw [hnz] at hnb
      have hq1 : ((X.size : Int) == (s.size : Int) + 1) = true := by rw [beq_iff_eq]; omega
      have hq2 : ((X.size : Int) != (s.size : Int) + 1) = false := by rw [bne, hq1]; rfl
      obtain ⟨z4, hz4⟩ : ∃ z4, 65 + l = z4 := ⟨_, rfl⟩
      rw [hz4] at hnb
      obtain ⟨l1, hl1⟩ : ∃ l1, l + 1 = l1 := ⟨_, rfl⟩
      obtain ⟨l2, hl2⟩ : ∃ l2, l1 + p = l2 := ⟨_, rfl⟩
      obtain ⟨l3, hl3⟩ : ∃ l3, l2 % 26 = l3 := ⟨_, rfl⟩
      have g1 : (z4 : Int) - 65 = (l : Int) := by omega
      have g1u : IntKind.u8.wrap (l : Int) = (l : Int) := by simp [IntKind.wrap, IntKind.bits, IntKind.signed]; omega
      have g2 : (l : Int) + 1 = (l1 : Int) := by omega
      have g2u : IntKind.u8.wrap (l1 : Int) = (l1 : Int) := by simp [IntKind.wrap, IntKind.bits, IntKind.signed]; omega
      have gpu : IntKind.u8.wrap (p : Int) = (p : Int) := by simp [IntKind.wrap, IntKind.bits, IntKind.signed]; omega
      have g3 : (l1 : Int) + (p : Int) = (l2 : Int) := by omega
      have g3u : IntKind.u8.wrap (l2 : Int) = (l2 : Int) := by simp [IntKind.wrap, IntKind.bits, IntKind.signed]; omega
      have g4 : (l2 : Int).tmod 26 = (l3 : Int) := by rw [Int.tmod_eq_emod_of_nonneg (by omega)]; omega
      have g4b : (l2 : Int) % 26 = (l3 : Int) := by omega
      have g5 : (65 : Int) + (l3 : Int) = (b4 : Int) := by omega
      have g5u : IntKind.u8.wrap (b4 : Int) = (b4 : Int) := by simp [IntKind.wrap, IntKind.bits, IntKind.signed]; omega
      have hcv := fun w => conv1 w b4
      have hno : ¬ 9223372036854775807 < s.size + (strB [b4]).size := by rw [size_strB]; simp; omega
      have HSZ := Lib.hid (show (s ++ strB [b4]).size ≤ 100000 by rw [size_dig]; simp; omega)
      have HX := Lib.hid hX
      have HH := Lib.hid hh
      clear hX hh hnz hXs hb4 hz4 hl1 hl2 hl3
      go_wp2_with (first
        | (go_at_call 25; refine (complete_any _ _ _ (by omega)).mono ?_; rintro e w2 ⟨rfl, hb2⟩; rw [HX.out]; have HB2 := Lib.hid (HBR.out.trans (hb2.mono HBR.out.size)); have HB2b := Lib.hid (fun o => HB2.out.trans ((box_below w2 o).mono HB2.out.size)); clear hb2)
        | (go_at_call 19; refine (holds_any _ _ _ HSZ.out).mono ?_; rintro e w4 ⟨rfl, hb4⟩; rw [HH.out]; have HB4 := Lib.hid ((HB2b.out _).trans (hb4.mono (HB2b.out _).size)); clear hb4)
        | (go_at_call 23; refine (awake_any _).mono ?_; rintro e w5 ⟨rfl, hb5⟩; have HB5 := Lib.hid (HB4.out.trans (hb5.mono HB4.out.size)); clear hb5))
      go_ret
      exact ⟨rfl, HB5.out⟩

/-! ### THE ROW's STEP: WRITTEN OUT: LEAVE IT -/
set_option maxRecDepth 100000 in
theorem lifted (os : Os) (started : os.Started) (H : Type) (enc : TypeId × Value → H) :
    ReturnsInHanded {} Tryd.checked os 6 .any (fun w args => (Rows.checksumTellsSpec.pre enc Tryd.prog Tryd.f6 [] false w args ∧ laidMetH Tryd.prog laidL w) ∧ sizedMet enc Tryd.prog Tryd.f6 (OpenSpec.ofChange Rows.checksumTellsSpec) false w args) (Rows.checksumTellsSpec.post enc Tryd.prog Tryd.f6 false true false false) := by
  refine returnsInHanded_of_change_and (C := Tryd.checked) (X := fun w _ => laidMetH Tryd.prog laidL w) (fun _ _ _ hh h => h.of_heap hh) own started (by kernel_rfl) Tryd.func6
    (ChangeSpec.witness_shaped (enc := enc) (C := Tryd.checked) (os := os) (X := fun w _ => laidMetH Tryd.prog laidL w) false (World.doorLaid Tryd.prog 400 os) #[.slice none 0 0, .int .i64 0, .int .i64 0, .int .i64 0] 8 rfl (World.shaped_of_RefB (by kernel_rfl) (by kernel_rfl)) (by kernel_rfl) (by kernel_rfl) (by kernel_rfl) (door_met os _)) ?_
  intro W base args ds gs before hval0 hW _ _ hL _
  have hval : ∀ (j : Nat) t v, Tryd.f6.params[j]? = some t → args[j]? = some v → Value.okWide Tryd.prog W .any base t v := hval0
  have hW' := hW
  obtain ⟨p, q, hA0, hV, rfl, hfz, hnd⟩ := hW
  have hA : DataW.TrodAll enc Tryd.prog W 0 (fun _ => true) true Tryd.f6.params.toList args.toList ds p := hA0
  rw [Tryd.params6] at hA hval
  obtain ⟨v0, vs0, d0, ds0, p0, q0, hargs, rfl, rfl, h0, r0⟩ := trodAll_cons hA
  obtain ⟨v1, vs1, d1, ds1, p1, q1, rfl, rfl, rfl, h1, r1⟩ := trodAll_cons r0
  obtain ⟨v2, vs2, d2, ds2, p2, q2, rfl, rfl, rfl, h2, r2⟩ := trodAll_cons r1
  obtain ⟨v3, vs3, d3, ds3, p3, q3, rfl, rfl, rfl, h3, r3⟩ := trodAll_cons r2
  obtain ⟨rfl, rfl, rfl⟩ := trodAll_nil r3
  obtain rfl : args = #[v0, v1, v2, v3] := by cases args; simp_all
  obtain ⟨rfl, rfl⟩ := trodVars_none hV
  obtain ⟨a0, len0, cap0, rfl⟩ := okWide_slice Tryd.underlying22 (hval 0 22 v0 rfl rfl)
  have k0 := h0
  have lt0 : ∀ x ∈ p0, x.block < W.heap.size := by obtain ⟨m, hm⟩ := k0; exact DataW.trod_lt m _ _ _ hm
  obtain ⟨z0, w0⟩ : ∃ zs, IsRow .i64 W a0 len0 cap0 zs := by
    obtain ⟨fuel, hf⟩ := h0
    rcases open_ints Tryd.underlying22 Tryd.underlying3 (by kernel_rfl) hf with ⟨hcs, _⟩ | ⟨x, l, c, zs, hcs, _, hl, hm, hz, _, hcell, hwz⟩
    · simp [Value.cells] at hcs
      obtain ⟨rfl, rfl, rfl⟩ := hcs
      exact ⟨[], .inl ⟨rfl, rfl, rfl, rfl⟩⟩
    · simp [Value.cells] at hcs
      obtain ⟨rfl, rfl, rfl⟩ := hcs
      exact ⟨zs, .inr ⟨_, rfl, hl, hm, by simpa using hz, hcell, hwz⟩⟩
  obtain ⟨a1, rfl, rfl, rfl, w1⟩ := open_int Tryd.underlying3 (hval 1 3 v1 rfl rfl) h1
  obtain ⟨a2, rfl, rfl, rfl, w2⟩ := open_int Tryd.underlying3 (hval 2 3 v2 rfl rfl) h2
  obtain ⟨a3, rfl, rfl, rfl, w3⟩ := open_int Tryd.underlying3 (hval 3 3 v3 rfl rfl) h3
  clear hA0 hval0
  refine (walk a0 len0 cap0 z0 a1 a2 a3 W w0 w1 w2 w3).mono fun e W' ⟨he, bel⟩ => ?_
  subst he
  exact ⟨_, rfl, _, _, _, [], _, [], hW', trodAll_mk1 (shut_bool Tryd.underlying4 _), (trodAll_cons_mk (Below.trod laidOut (by kernel_rfl) (of_decide_eq_true (by kernel_rfl)) k0 bel lt0) (trodAll_cons_mk (shut_int Tryd.underlying3 w1) (trodAll_cons_mk (shut_int Tryd.underlying3 w2) (trodAll_cons_mk (shut_int Tryd.underlying3 w3) trodAll_mk0)))), rfl, bel.frame _, fun h => by cases h⟩

theorem over : Rows.checksumTellsRow.holds Tryd.pinned (OpenSpec.ofChange Rows.checksumTellsSpec) :=
  OpenClaim.holds_of_wide 6 Tryd.f6 rfl rfl rfl rfl rfl rfl rfl ⟨rfl, rfl, rfl, rfl, rfl⟩ rfl rfl rfl rfl rfl (by kernel_rfl) Tryd.func6 (by kernel_rfl)
    (of_decide_eq_true (by kernel_rfl)) (by unfold Func.isWrapper; first | (rw [if_pos (by decide +kernel)]; kernel_rfl) | (rw [if_neg (by decide +kernel)]; exact ⟨rfl, rfl⟩))
    (fun os started H enc _ => lifted os started H enc)

/-- ████ THE STATEMENT ████ -/
theorem proved : Rows.ChecksumTellsSaid := over
#print axioms proved

/-- ████ THE TIED CARD ████ -/
theorem card : Rows.ChecksumTellsCardSaid :=
  Claim7.holds_tied_plain_at .later [] [.data, .data, .data] true (true, "4935cba83d4df52bd0d5a43570ed45bb14e30fd3ba9468868efeb6f4e4a7b30a") false
    proved (fun _ h => by cases h) (by kernel_rfl) (fun _ h => by cases h) checksumTells_row_tie rfl ⟨rfl, rfl⟩ (by kernel_rfl) rfl
    (fun f fn hf hfn => by
      obtain rfl : f = 6 := Option.some.inj ((show Tryd.prog.funcNamed "leakresponse/leakresponselaw03.ChecksumTells" = some 6 by kernel_rfl).symm.trans hf) |>.symm
      obtain rfl : fn = Tryd.f6 := (Option.some.inj (Tryd.func6.symm.trans hfn)).symm
      exact ⟨by kernel_rfl, fun j t ht => by
        rw [Tryd.params6] at ht
        have hm : t ∈ [22, 3, 3, 3] := by simpa using Array.mem_of_getElem? ht
        have hall : ([22, 3, 3, 3].all fun u => !Tryd.prog.wantsStandIn u) = true := by kernel_rfl
        exact (show Tryd.prog.wantsStandIn t = false by simpa using List.all_eq_true.1 hall t hm)⟩)
    (by kernel_rfl)
#print axioms card
end Go.Proofs.YthofhljbipkiaaaDoor.checksumTells
