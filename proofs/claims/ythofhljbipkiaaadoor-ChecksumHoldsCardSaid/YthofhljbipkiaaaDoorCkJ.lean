import Derived.Test.YthofhljbipkiaaaDoorCkI
namespace Go.Proofs.YthofhljbipkiaaaDoor.Ck
open Go.RowKit
open Go.Proofs.YthofhljbipkiaaaDoor.Tp
set_option linter.unusedVariables false

theorem conv1b (w : World) (o : Obj) (b : Nat) : (convert 32 9 (.slice (some ⟨w.heap.size + 1, 0, none⟩) 1 1)).run Tryd.prog ((w.alloc o).alloc (.cells #[.int .u8 (b : Int)] 5)) = .ok (.string (strB [b])) ((w.alloc o).alloc (.cells #[.int .u8 (b : Int)] 5)) := by
  have := conv1 (w.alloc o) b
  rw [show (w.alloc o).heap.size = w.heap.size + 1 by simp] at this
  exact this

set_option maxRecDepth 100000 in
set_option maxHeartbeats 1000000 in
theorem refcomplete_0 (s : ByteArray) (w : World) (hs : s.size ≤ 60000) : Calls Tryd.prog 10 #[.int .i64 0, .string s] w fun e w' => e = .returned (cplV 0 s) ∧ Below w.heap.size w w' := by
  have hlim : ¬ (65536 : Int) < (s.size : Int) := by omega
  have hfin := Lib.hid (cplV_zero (s := s))
  go_enter Tryd.func10, Tryd.ntmps10
  go_wp2_with (first
    | (go_at_call 22; refine (refvalid_any _ _).mono ?_; rintro e w1 ⟨rfl, rfl⟩))
  go_ret2
  exact ⟨by rw [hfin.out]; rfl, Below.refl _ _⟩

set_option maxRecDepth 100000 in
set_option maxHeartbeats 1000000 in
theorem refcomplete_1 (s : ByteArray) (w : World) (hs : s.size ≤ 60000) (hc : compl 1 (nums s) = true) : Calls Tryd.prog 10 #[.int .i64 1, .string s] w fun e w' => e = .returned (cplV 1 s) ∧ Below w.heap.size w w' := by
  have hs1 : s.size ≤ 100000 := by omega
  have hlim : ¬ (65536 : Int) < (s.size : Int) := by omega
  have hfin := cplV_ok (c := 1) (by omega) hc (by omega)
  rw [show tailC 1 (nums s) = [48 + luD (nums s)] from rfl] at hfin
  have HF := Lib.hid hfin
  clear hfin
  have h1 := compl_ne (by omega) hc
  have hs0 : ((s.size : Int) == 0) = false := by rw [beq_eq_false_iff_ne]; omega
  have hd := compl_d hc
  have HD := Lib.hid (fun w => digits_any s w hs1)
  have hld := luD_le (nums s)
  have hls : ∀ d, d ≤ 9 → luhn (nums (s ++ strB [48 + d])) = decide (d = luD (nums s)) := fun d hd' => by
    rw [nums_dig _ _ hd', luhn_snoc hd' hd (by rw [nums_length]; exact h1)]
  have HLS := Lib.hid hls
  clear hls
  generalize luD (nums s) = D at *
  go_enter Tryd.func10, Tryd.ntmps10
  go_wp2_with (first
    | (go_at_call 22; refine (refvalid_any _ _).mono ?_; rintro e w1 ⟨rfl, rfl⟩)
    | (go_at_call 26; refine (HD.out _).mono ?_; rintro e w1 ⟨rfl, rfl⟩))
  go_loopw [6] (fun i w' => Below w.heap.size w w' ∧ ∃ k : Nat, k ≤ D ∧ i = .int .u8 ((48 + k : Nat) : Int)) (fun i _ => 48 + D - (intOf i).toNat)
  case atStart => exact ⟨Below.refl _ _, 0, by omega, rfl⟩
  case round =>
    obtain ⟨hb, k, hk, rfl⟩ := hrel
    have HB := Lib.hid hb
    clear hb
    by_cases h9 : k = 9
    · subst h9
      have hD : D = 9 := by omega
      subst hD
      have hno : ¬ 9223372036854775807 < s.size + 1 := by omega
      go_wp2
      go_ret2
      exact ⟨by rw [HF.out]; rfl, HB.out⟩
    · have hlt : ((48 + k : Nat) : Int) < 57 := by omega
      have hcv := fun w => conv1 w (48 + k)
      have hcv2 := fun w o => conv1b w o (48 + k)
      have hsz : (s ++ strB [48 + k]).size ≤ 100000 := by rw [size_dig]; simp; omega
      have hno : ¬ 9223372036854775807 < s.size + (strB [48 + k]).size := by rw [size_strB]; simp; omega
      have hv := HLS.out k (by omega)
      have hlu : ∀ w : World, Calls Tryd.prog 12 #[.string (s ++ strB [48 + k])] w fun e w' => e = .returned (.bool (decide (k = D))) ∧ w = w' := fun w => (refluhn_any _ w hsz).mono fun e w' ⟨he, hw⟩ => ⟨by rw [he, hv], hw⟩
      have HLU := Lib.hid hlu
      have hwr : IntKind.u8.wrap (((48 + k : Nat) : Int) + 1) = ((48 + (k + 1) : Nat) : Int) := by simp [IntKind.wrap, IntKind.bits, IntKind.signed]; omega
      clear hlu hv
      generalize hkb : 48 + k = b at *
      by_cases hkD : k = D
      · have hdk : decide (k = D) = true := by simpa using hkD
        rw [hdk] at HLU
        have HF2 := Lib.hid (show cplV 1 s = .tuple #[.string (s ++ strB [b]), .int .i64 0] by rw [HF.out, ← hkb, hkD])
        go_wp2_with (first
          | (go_at_call 12; refine (HLU.out _).mono ?_; rintro e w1 ⟨rfl, rfl⟩))
        go_ret2
        exact ⟨by rw [HF2.out]; rfl, HB.out.trans (((box_below _ _).trans ((box_below _ _).mono (by simp))).mono HB.out.size)⟩
      · have hdk : decide (k = D) = false := by simpa using hkD
        rw [hdk] at HLU
        go_wp2_with (first
          | (go_at_call 12; refine (HLU.out _).mono ?_; rintro e w1 ⟨rfl, rfl⟩))
        exact ⟨⟨HB.out.trans ((box_below _ _).mono HB.out.size), k + 1, by omega, rfl⟩, by simp [intOf]; omega⟩

set_option maxRecDepth 100000 in
set_option maxHeartbeats 1000000 in
theorem refcomplete_2 (s : ByteArray) (w : World) (hs : s.size ≤ 60000) (hc : compl 2 (nums s) = true) : Calls Tryd.prog 10 #[.int .i64 2, .string s] w fun e w' => e = .returned (cplV 2 s) ∧ Below w.heap.size w w' := by
  have hs1 : s.size ≤ 100000 := by omega
  have hlim : ¬ (65536 : Int) < (s.size : Int) := by omega
  have hfin := cplV_ok (c := 2) (by omega) hc (by omega)
  rw [show tailC 2 (nums s) = [48 + (98 - rem00 (nums s)) / 10, 48 + (98 - rem00 (nums s)) % 10] from rfl] at hfin
  have h1 := compl_ne (by omega) hc
  have hs0 : ((s.size : Int) == 0) = false := by rw [beq_eq_false_iff_ne]; omega
  have hd := compl_dc hc
  have HD := Lib.hid (fun w => caps_any s w hs1)
  have hn0 : ¬ 9223372036854775807 < s.size + ({ data := #[48, 48] } : ByteArray).size := by
    show ¬ 9223372036854775807 < s.size + 2
    omega
  have hn00 : ¬ 9223372036854775807 < s.size + 2 := by omega
  have HREM := Lib.hid (fun w => rest00_any s w hs hd)
  have hrl := rem00_lt (nums s)
  generalize rem00 (nums s) = r at *
  have hsub : (98 : Int) - (r : Int) = ((98 - r : Nat) : Int) := by omega
  generalize 98 - r = m at *
  have hm : m ≤ 98 := by omega
  have hwm : IntKind.i64.wrap (m : Int) = (m : Int) := IntWalk.i64_in _ (by omega)
  have hq2 : (m : Int).tdiv 10 = ((m / 10 : Nat) : Int) := by rw [Int.tdiv_eq_ediv_of_nonneg (by omega)]; omega
  have hr2 : (m : Int).tmod 10 = ((m % 10 : Nat) : Int) := by rw [Int.tmod_eq_emod_of_nonneg (by omega)]; omega
  have hq : (m : Int) / 10 = ((m / 10 : Nat) : Int) := by omega
  have hr : (m : Int) % 10 = ((m % 10 : Nat) : Int) := by omega
  have hd1 : m / 10 ≤ 9 := by omega
  have hd2 : m % 10 ≤ 9 := by omega
  generalize m / 10 = a at *
  generalize m % 10 = b at *
  have ha : (48 : Int) + (a : Int) = ((48 + a : Nat) : Int) := by omega
  have hb : (48 : Int) + (b : Int) = ((48 + b : Nat) : Int) := by omega
  have hcv := fun w => conv2 w (48 + a) (48 + b)
  have hno : ¬ 9223372036854775807 < s.size + (strB [48 + a, 48 + b]).size := by rw [size_strB]; simp; omega
  have hwa : IntKind.u8.wrap (a : Int) = (a : Int) := by simp [IntKind.wrap, IntKind.bits, IntKind.signed]; omega
  have hwb : IntKind.u8.wrap (b : Int) = (b : Int) := by simp [IntKind.wrap, IntKind.bits, IntKind.signed]; omega
  have hxa : IntKind.u8.wrap ((48 + a : Nat) : Int) = ((48 + a : Nat) : Int) := by simp [IntKind.wrap, IntKind.bits, IntKind.signed]; omega
  have hxb : IntKind.u8.wrap ((48 + b : Nat) : Int) = ((48 + b : Nat) : Int) := by simp [IntKind.wrap, IntKind.bits, IntKind.signed]; omega
  have hle1 : 48 + a ≤ 255 := by omega
  have hle2 : 48 + b ≤ 255 := by omega
  generalize 48 + a = x at *
  generalize 48 + b = y at *
  have HF := Lib.hid hfin
  clear hfin
  go_enter Tryd.func10, Tryd.ntmps10
  go_wp2_with (first
    | (go_at_call 22; refine (refvalid_any _ _).mono ?_; rintro e w1 ⟨rfl, rfl⟩)
    | (go_at_call 27; refine (HD.out _).mono ?_; rintro e w1 ⟨rfl, rfl⟩)
    | (go_at_call 28; refine (HREM.out _).mono ?_; rintro e w1 ⟨rfl, rfl⟩))
  go_ret2
  exact ⟨by rw [HF.out]; rfl, box_below _ _⟩

set_option maxRecDepth 100000 in
set_option maxHeartbeats 1000000 in
theorem refcomplete_3 (s : ByteArray) (w : World) (hs : s.size ≤ 60000) (hc : compl 3 (nums s) = true) : Calls Tryd.prog 10 #[.int .i64 3, .string s] w fun e w' => e = .returned (cplV 3 s) ∧ Below w.heap.size w w' := by
  have hs1 : s.size ≤ 100000 := by omega
  have hlim : ¬ (65536 : Int) < (s.size : Int) := by omega
  have hfin := Lib.hid (show cplV 3 s = .tuple #[.string (s ++ strB (hexL (crc (nums s)) 8)), .int .i64 0] from cplV_ok (c := 3) (by omega) hc (by omega))
  have h1 := compl_ne (by omega) hc
  have hs0 : ((s.size : Int) == 0) = false := by rw [beq_eq_false_iff_ne]; omega
  have hno : ¬ 9223372036854775807 < s.size + (strB (hexL (crc (nums s)) 8)).size := by rw [size_strB]; simp [hexL]; omega
  have HT := Lib.hid (fun w => refcrc_any s w hs1)
  have HX := Lib.hid (fun w => hex_any (crc (nums s)) w (crc_lt s))
  generalize hexL (crc (nums s)) 8 = hx at *
  generalize crc (nums s) = x at *
  go_enter Tryd.func10, Tryd.ntmps10
  go_wp2_with (first
    | (go_at_call 22; refine (refvalid_any _ _).mono ?_; rintro e w1 ⟨rfl, rfl⟩)
    | (go_at_call 16; refine (HT.out _).mono ?_; rintro e w1 ⟨rfl, rfl⟩)
    | (go_at_call 29; refine (HX.out _).mono ?_; rintro e w1 ⟨rfl, hb⟩))
  go_ret2
  exact ⟨by rw [hfin.out]; rfl, hb⟩

set_option maxRecDepth 100000 in
set_option maxHeartbeats 1000000 in
theorem refcomplete_4 (s : ByteArray) (w : World) (hs : s.size ≤ 60000) (hc : compl 4 (nums s) = true) : Calls Tryd.prog 10 #[.int .i64 4, .string s] w fun e w' => e = .returned (cplV 4 s) ∧ Below w.heap.size w w' := by
  have hs1 : s.size ≤ 100000 := by omega
  have hlim : ¬ (65536 : Int) < (s.size : Int) := by omega
  have htl : tailC 4 (nums s) = [65 + letTo (nums s) s.size] := by unfold tailC; rw [nums_length]; rfl
  have hfin := cplV_ok (c := 4) (by omega) hc (by omega)
  rw [htl] at hfin
  have HF := Lib.hid hfin
  clear hfin htl
  have h1 := compl_ne (by omega) hc
  have hs0 : ((s.size : Int) == 0) = false := by rw [beq_eq_false_iff_ne]; omega
  have hcv := fun w => conv1 w (65 + letTo (nums s) s.size)
  have hno : ¬ 9223372036854775807 < s.size + (strB [65 + letTo (nums s) s.size]).size := by rw [size_strB]; simp; omega
  have hlet : ∀ w : World, Calls Tryd.prog 18 #[.string s] w fun e w' => e = .returned (.int .u8 (65 + letTo (nums s) s.size : Nat)) ∧ w = w' := fun w => reflet_any s w hs1
  have HLET := Lib.hid hlet
  clear hlet
  generalize 65 + letTo (nums s) s.size = b at *
  go_enter Tryd.func10, Tryd.ntmps10
  go_wp2_with (first
    | (go_at_call 22; refine (refvalid_any _ _).mono ?_; rintro e w1 ⟨rfl, rfl⟩)
    | (go_at_call 18; refine (HLET.out _).mono ?_; rintro e w1 ⟨rfl, rfl⟩))
  go_ret2
  exact ⟨by rw [HF.out]; rfl, box_below _ _⟩

set_option maxRecDepth 100000 in
set_option maxHeartbeats 1000000 in
theorem refcomplete_any (c : Int) (s : ByteArray) (w : World) (hs : s.size ≤ 60000) : Calls Tryd.prog 10 #[.int .i64 c, .string s] w fun e w' => e = .returned (cplV c s) ∧ Below w.heap.size w w' := by
  have hs1 : s.size ≤ 100000 := by omega
  have hlim : ¬ (65536 : Int) < (s.size : Int) := by omega
  by_cases hv : 0 ≤ c ∧ c ≤ 4
  · have hvd : decide (0 ≤ c ∧ c ≤ 4) = true := decide_eq_true hv
    by_cases hc : compl c (nums s) = true
    · rcases (by omega : c = 0 ∨ c = 1 ∨ c = 2 ∨ c = 3 ∨ c = 4) with rfl | rfl | rfl | rfl | rfl
      · exact refcomplete_0 s w hs
      · exact refcomplete_1 s w hs hc
      · exact refcomplete_2 s w hs hc
      · exact refcomplete_3 s w hs hc
      · exact refcomplete_4 s w hs hc
    · rw [Bool.not_eq_true] at hc
      have hfin := Lib.hid (cplV_syn hv hc)
      by_cases h1 : 1 ≤ s.size
      · have hs0 : ((s.size : Int) == 0) = false := by rw [beq_eq_false_iff_ne]; omega
        have hdd : decide (1 ≤ (nums s).length) = true := by rw [nums_length]; simpa using h1
        rcases (by omega : c = 0 ∨ c = 1 ∨ c = 2 ∨ c = 3 ∨ c = 4) with rfl | rfl | rfl | rfl | rfl
        · exact absurd (show true = false from hc) (by decide)
        · have hd : (nums s).all isD = false := by
            rw [show compl 1 (nums s) = (decide (1 ≤ (nums s).length) && (nums s).all isD) from rfl, hdd, Bool.true_and] at hc
            exact hc
          have HD := digits_any s w hs1
          rw [hd] at HD
          have HDD := Lib.hid HD
          clear HD hd hc
          go_enter Tryd.func10, Tryd.ntmps10
          go_wp2_with (first
            | (go_at_call 22; refine (refvalid_any _ _).mono ?_; rintro e w1 ⟨rfl, rfl⟩)
            | (go_at_call 26; refine HDD.out.mono ?_; rintro e w1 ⟨rfl, rfl⟩))
          go_ret2
          exact ⟨by rw [hfin.out]; rfl, Below.refl _ _⟩
        · have hd : (nums s).all isDC = false := by
            rw [show compl 2 (nums s) = (decide (1 ≤ (nums s).length) && (nums s).all isDC) from rfl, hdd, Bool.true_and] at hc
            exact hc
          have HD := caps_any s w hs1
          rw [hd] at HD
          have HDD := Lib.hid HD
          clear HD hd hc
          go_enter Tryd.func10, Tryd.ntmps10
          go_wp2_with (first
            | (go_at_call 22; refine (refvalid_any _ _).mono ?_; rintro e w1 ⟨rfl, rfl⟩)
            | (go_at_call 27; refine HDD.out.mono ?_; rintro e w1 ⟨rfl, rfl⟩))
          go_ret2
          exact ⟨by rw [hfin.out]; rfl, Below.refl _ _⟩
        · rw [show compl 3 (nums s) = decide (1 ≤ (nums s).length) from rfl, hdd] at hc
          exact absurd hc (by decide)
        · rw [show compl 4 (nums s) = decide (1 ≤ (nums s).length) from rfl, hdd] at hc
          exact absurd hc (by decide)
      · have h0 := empty_eq (s := s) (by omega)
        subst h0
        rcases (by omega : c = 0 ∨ c = 1 ∨ c = 2 ∨ c = 3 ∨ c = 4) with rfl | rfl | rfl | rfl | rfl
        · exact absurd (show true = false from hc) (by decide)
        all_goals
          go_enter Tryd.func10, Tryd.ntmps10
          go_wp2_with (go_at_call 22; refine (refvalid_any _ _).mono ?_; rintro e w1 ⟨rfl, rfl⟩)
          go_ret2
          exact ⟨by rw [hfin.out]; rfl, Below.refl _ _⟩
  · have hvd : decide (0 ≤ c ∧ c ≤ 4) = false := decide_eq_false hv
    have hfin := Lib.hid (cplV_bad (s := s) hv)
    go_enter Tryd.func10, Tryd.ntmps10
    go_wp2_with (go_at_call 22; refine (refvalid_any _ _).mono ?_; rintro e w1 ⟨rfl, rfl⟩)
    go_ret2
    exact ⟨by rw [hfin.out]; rfl, Below.refl _ _⟩

end Go.Proofs.YthofhljbipkiaaaDoor.Ck
