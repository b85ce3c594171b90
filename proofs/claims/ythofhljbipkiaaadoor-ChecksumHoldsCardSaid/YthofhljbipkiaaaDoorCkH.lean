import Derived.Test.YthofhljbipkiaaaDoorCkG
namespace Go.Proofs.YthofhljbipkiaaaDoor.Ck
open Go.RowKit
open Go.Proofs.YthofhljbipkiaaaDoor.Tp
set_option linter.unusedVariables false

theorem getD_snoc_lt {bs : List Nat} {b j : Nat} (h : j < bs.length) : (bs ++ [b]).getD j 0 = bs.getD j 0 := by
  rw [List.getD_eq_getElem?_getD, List.getD_eq_getElem?_getD, List.getElem?_append_left h]

theorem getD_snoc_eq {bs : List Nat} {b : Nat} : (bs ++ [b]).getD bs.length 0 = b := by
  rw [List.getD_eq_getElem?_getD, List.getElem?_append_right (Nat.le_refl _), Nat.sub_self]
  rfl

theorem luR_succ (bs : List Nat) (k : Nat) : luR bs (k + 1) = luR bs k + lu (bs.getD (bs.length - 1 - k) 0 - 48) k := rfl

def luX (bs : List Nat) : Nat := luR (bs ++ [48]) (bs.length + 1)
/-- The digit that completes. -/
def luD (bs : List Nat) : Nat := (10 - luX bs % 10) % 10

theorem luR_snoc (bs : List Nat) (d k : Nat) (hk : k ≤ bs.length) : luR (bs ++ [48 + d]) (k + 1) = d + luR (bs ++ [48]) (k + 1) := by
  have e1 : (bs ++ [48 + d]).length = bs.length + 1 := by simp
  have e2 : (bs ++ [48]).length = bs.length + 1 := by simp
  induction k with
  | zero =>
    simp only [luR, e1, e2, Nat.sub_zero, Nat.add_sub_cancel, getD_snoc_eq]
    simp [lu]
  | succ k ih =>
    have ih := ih (by omega)
    have hj : bs.length + 1 - 1 - (k + 1) < bs.length := by omega
    rw [luR_succ _ (k + 1), luR_succ (bs ++ [48]) (k + 1), ih, e1, e2, getD_snoc_lt hj, getD_snoc_lt hj]
    omega

theorem luhn_snoc {bs : List Nat} {d : Nat} (hd : d ≤ 9) (h : bs.all isD = true) (hne : 1 ≤ bs.length) : luhn (bs ++ [48 + d]) = decide (d = luD bs) := by
  have ha : (bs ++ [48 + d]).all isD = true := by
    rw [List.all_append, h]
    simp [isD]
    omega
  rw [luhn_val (by simp; omega) ha]
  unfold luTo luD
  rw [show (bs ++ [48 + d]).length = bs.length + 1 by simp, luR_snoc _ _ _ (Nat.le_refl _)]
  show decide ((d + luX bs) % 10 = 0) = _
  rw [Bool.eq_iff_iff]
  simp only [decide_eq_true_eq]
  omega

theorem luD_le (bs : List Nat) : luD bs ≤ 9 := by unfold luD; omega

theorem nums_nil_iff (s : ByteArray) : nums s = [] ↔ s.size = 0 := by
  rw [← nums_length, List.length_eq_zero_iff]

theorem empty_eq {s : ByteArray} (h : s.size = 0) : s = { data := #[] } := by
  obtain ⟨⟨l⟩⟩ := s
  have : l.length = 0 := h
  rw [List.length_eq_zero_iff.1 this]

theorem ne_empty2 {s : ByteArray} (h : 1 ≤ s.size) : ¬ s.toList = [] := by
  intro e
  rw [byteArray_data] at e
  have : s.size = s.data.toList.length := by rw [Array.length_toList]; rfl
  rw [e] at this
  have h0 : s.size = 0 := this
  omega

theorem ne_empty3 {s : ByteArray} (h : 1 ≤ s.size) : s.toList.isEmpty = false := by
  have := ne_empty2 h
  simpa using this

def compl (c : Int) (bs : List Nat) : Bool :=
  if c = 0 then true else if c = 1 then decide (1 ≤ bs.length) && bs.all isD else if c = 2 then decide (1 ≤ bs.length) && bs.all isDC else decide (1 ≤ bs.length)

set_option maxRecDepth 100000 in
set_option maxHeartbeats 1000000 in
theorem compl_any (c : Int) (s : ByteArray) (w : World) (hs : s.size ≤ 100000) : Calls Tryd.prog 35 #[.int .i64 c, .string s] w fun e w' => e = .returned (.bool (compl c (nums s))) ∧ w = w' := by
  have hL := Lib.hid (nums_length s)
  by_cases h1 : 1 ≤ s.size
  · have hne := ne_empty2 h1
    have hne2 := ne_empty3 h1
    have hdd : decide (1 ≤ s.size) = true := by simpa using h1
    by_cases c0 : c = 0
    · subst c0
      go_enter Tryd.func35, Tryd.ntmps35
      go_wp2
      go_ret
      exact ⟨rfl, rfl⟩
    by_cases c1 : c = 1
    · subst c1
      have hv := Lib.hid (show compl 1 (nums s) = (nums s).all isD by unfold compl; rw [hL.out, hdd]; simp)
      go_enter Tryd.func35, Tryd.ntmps35
      go_wp2_with (go_at_call 30; refine (every_d _ _ hs).mono ?_; rintro e w1 ⟨rfl, rfl⟩)
      go_ret
      exact ⟨by rw [hv.out]; rfl, rfl⟩
    by_cases c2 : c = 2
    · subst c2
      have hv := Lib.hid (show compl 2 (nums s) = (nums s).all isDC by unfold compl; rw [hL.out, hdd]; simp)
      go_enter Tryd.func35, Tryd.ntmps35
      go_wp2_with (go_at_call 32; refine (ismod_any _ _ hs).mono ?_; rintro e w1 ⟨rfl, rfl⟩)
      go_ret
      exact ⟨by rw [hv.out]; rfl, rfl⟩
    · have hv := Lib.hid (show compl c (nums s) = true by unfold compl; rw [hL.out, hdd, if_neg c0, if_neg c1, if_neg c2])
      have q0 : (c == 0) = false := by simpa using c0
      have q1 : (c == 1) = false := by simpa using c1
      have q2 : (c == 2) = false := by simpa using c2
      go_enter Tryd.func35, Tryd.ntmps35
      go_wp2
      go_ret
      exact ⟨by rw [hv.out]; rfl, rfl⟩
  · have h0 := empty_eq (s := s) (by omega)
    subst h0
    by_cases c0 : c = 0
    · subst c0
      go_enter Tryd.func35, Tryd.ntmps35
      go_wp2
      go_ret
      exact ⟨rfl, rfl⟩
    by_cases c1 : c = 1
    · subst c1
      go_enter Tryd.func35, Tryd.ntmps35
      go_wp2
      go_ret
      exact ⟨rfl, rfl⟩
    by_cases c2 : c = 2
    · subst c2
      go_enter Tryd.func35, Tryd.ntmps35
      go_wp2
      go_ret
      exact ⟨rfl, rfl⟩
    · have hv := Lib.hid (show compl c (nums { data := #[] }) = false by unfold compl; rw [if_neg c0, if_neg c1, if_neg c2]; rfl)
      have q0 : (c == 0) = false := by simpa using c0
      have q1 : (c == 1) = false := by simpa using c1
      have q2 : (c == 2) = false := by simpa using c2
      go_enter Tryd.func35, Tryd.ntmps35
      go_wp2
      go_ret
      exact ⟨by rw [hv.out]; rfl, rfl⟩

set_option maxRecDepth 100000 in
set_option maxHeartbeats 1000000 in
theorem small_d (d : Nat) (w : World) (hd : d ≤ 9) : Calls Tryd.prog 42 #[.int .i64 (d : Int)] w fun e w' => e = .returned (.string (strB [48 + d])) ∧ w = w' := by
  rcases (by omega : d = 0 ∨ d = 1 ∨ d = 2 ∨ d = 3 ∨ d = 4 ∨ d = 5 ∨ d = 6 ∨ d = 7 ∨ d = 8 ∨ d = 9) with rfl | rfl | rfl | rfl | rfl | rfl | rfl | rfl | rfl | rfl
  all_goals
    go_enter Tryd.func42, Tryd.ntmps42
    go_wp2
    go_ret
    exact ⟨rfl, rfl⟩

set_option maxRecDepth 100000 in
set_option maxHeartbeats 1000000 in
theorem fmt_d (d : Nat) (w : World) (hd : d ≤ 9) : Calls Tryd.prog 41 #[.int .i64 (d : Int), .int .i64 10] w fun e w' => e = .returned (.string (strB [48 + d])) ∧ w = w' := by
  have h0 : decide ((0 : Int) ≤ (d : Int)) = true := by simp
  have h1 : decide ((d : Int) < 100) = true := by simp; omega
  go_enter Tryd.func41, Tryd.ntmps41
  go_wp2_with (go_at_call 42; refine (small_d _ _ hd).mono ?_; rintro e w1 ⟨rfl, rfl⟩)
  go_ret
  exact ⟨rfl, rfl⟩

theorem itoa0_d (d : Nat) (w : World) (hd : d ≤ 9) : Calls Tryd.prog 40 #[.int .i64 (d : Int)] w fun e w' => e = .returned (.string (strB [48 + d])) ∧ w = w' := by
  go_enter Tryd.func40, Tryd.ntmps40
  go_wp2_with (go_at_call 41; refine (fmt_d _ _ hd).mono ?_; rintro e w1 ⟨rfl, rfl⟩)
  go_ret
  exact ⟨rfl, rfl⟩

theorem itoa_d (d : Nat) (w : World) (hd : d ≤ 9) : Calls Tryd.prog 37 #[.int .i64 (d : Int)] w fun e w' => e = .returned (.string (strB [48 + d])) ∧ w = w' := by
  go_enter Tryd.func37, Tryd.ntmps37
  go_wp2_with (go_at_call 40; refine (itoa0_d _ _ hd).mono ?_; rintro e w1 ⟨rfl, rfl⟩)
  go_ret
  exact ⟨rfl, rfl⟩

theorem nums_dig (s : ByteArray) (d : Nat) (hd : d ≤ 9) : nums (s ++ strB [48 + d]) = nums s ++ [48 + d] := by
  rw [nums_append, nums_strB (by intro b hb; simp at hb; omega)]

theorem size_dig (s : ByteArray) (bs : List Nat) : (s ++ strB bs).size = s.size + bs.length := by
  rw [ByteArray.size_append, size_strB]

set_option maxRecDepth 100000 in
set_option maxHeartbeats 1000000 in
theorem ludig_any (s : ByteArray) (w : World) (h1 : 1 ≤ s.size) (hs : s.size ≤ 70000) (ha : (nums s).all isD = true) : Calls Tryd.prog 36 #[.string s] w fun e w' => e = .returned (.string (strB [48 + luD (nums s)])) ∧ w = w' := by
  have hld := luD_le (nums s)
  have hls : ∀ d, d ≤ 9 → luhn (nums (s ++ strB [48 + d])) = decide (d = luD (nums s)) := fun d hd => by
    rw [nums_dig _ _ hd, luhn_snoc hd ha (by rw [nums_length]; exact h1)]
  have HLS := Lib.hid hls
  clear hls
  generalize luD (nums s) = D at *
  go_enter Tryd.func36, Tryd.ntmps36
  go_wp2
  go_loopw [3] (fun i w' => w' = w ∧ ∃ k : Nat, k ≤ D ∧ i = .int .i64 (k : Int)) (fun i _ => D - (intOf i).toNat)
  case atStart => exact ⟨rfl, 0, by omega, rfl⟩
  case round =>
    obtain ⟨rfl, k, hk, rfl⟩ := hrel
    have hsz : (s ++ strB [48 + k]).size ≤ 100000 := by rw [size_dig]; simp; omega
    have hno : ¬ 9223372036854775807 < s.size + (strB [48 + k]).size := by rw [size_strB]; simp; omega
    by_cases hkD : k = D
    · subst hkD
      have hv := HLS.out k (by omega)
      rw [show decide (k = k) = true by simp] at hv
      go_wp2_with (first
        | (go_at_call 37; refine (itoa_d _ _ (by omega)).mono ?_; rintro e w1 ⟨rfl, rfl⟩)
        | (go_at_call 11; refine (luhn_any _ _ hsz).mono ?_; rintro e w1 ⟨rfl, rfl⟩))
      go_ret
      exact ⟨rfl, rfl⟩
    · have hv := HLS.out k (by omega)
      rw [show decide (k = D) = false by simpa using hkD] at hv
      go_wp2_with (first
        | (go_at_call 37; refine (itoa_d _ _ (by omega)).mono ?_; rintro e w1 ⟨rfl, rfl⟩)
        | (go_at_call 11; refine (luhn_any _ _ hsz).mono ?_; rintro e w1 ⟨rfl, rfl⟩))
      exact ⟨⟨trivial, k + 1, by omega, by go_num⟩, by simp [intOf]; omega⟩

end Go.Proofs.YthofhljbipkiaaaDoor.Ck
