import Derived.Test.YthofhljbipkiaaaDoorCkH
namespace Go.Proofs.YthofhljbipkiaaaDoor.Ck
open Go.RowKit
open Go.Proofs.YthofhljbipkiaaaDoor.Tp
set_option linter.unusedVariables false

def rem00 (bs : List Nat) : Nat := remTo (bs ++ [48, 48]) (bs.length + 2)
def mod2 (bs : List Nat) : Nat := 98 - rem00 bs

/-- What is appended. -/
def tailC (c : Int) (bs : List Nat) : List Nat :=
  if c = 1 then [48 + luD bs] else if c = 2 then [48 + mod2 bs / 10, 48 + mod2 bs % 10] else if c = 3 then hexL (crc bs) 8 else [65 + letTo bs bs.length]

def cplE (c : Int) (bs : List Nat) : Nat := if 0 ≤ c ∧ c ≤ 4 then (if compl c bs = true then 0 else 4) else 1
def cplS (c : Int) (s : ByteArray) : ByteArray := if cplE c (nums s) = 0 then (if c = 0 then s else s ++ strB (tailC c (nums s))) else { data := #[] }
def cplV (c : Int) (s : ByteArray) : Value := .tuple #[.string (cplS c s), .int .i64 (cplE c (nums s) : Nat)]

theorem cplV_bad {c : Int} {s : ByteArray} (h : ¬ (0 ≤ c ∧ c ≤ 4)) : cplV c s = .tuple #[.string { data := #[] }, .int .i64 1] := by
  unfold cplV cplS cplE
  rw [if_neg h]
  rfl

theorem cplV_syn {c : Int} {s : ByteArray} (h : 0 ≤ c ∧ c ≤ 4) (hc : compl c (nums s) = false) : cplV c s = .tuple #[.string { data := #[] }, .int .i64 4] := by
  unfold cplV cplS cplE
  rw [if_pos h, hc]
  rfl

theorem cplV_ok {c : Int} {s : ByteArray} (h : 0 ≤ c ∧ c ≤ 4) (hc : compl c (nums s) = true) (hz : c ≠ 0) : cplV c s = .tuple #[.string (s ++ strB (tailC c (nums s))), .int .i64 0] := by
  unfold cplV cplS cplE
  rw [if_pos h, hc, if_pos rfl, if_pos rfl, if_neg hz]
  rfl

theorem cplV_zero {s : ByteArray} : cplV 0 s = .tuple #[.string s, .int .i64 0] := rfl

theorem strB_append (a b : List Nat) : strB a ++ strB b = strB (a ++ b) := by
  apply ByteArray.ext
  rw [ByteArray.data_append]
  apply Array.ext'
  rw [Array.toList_append]
  unfold strB
  rw [strOf_data, strOf_data, strOf_data]
  simp

theorem conv1 (w : World) (b : Nat) : (convert 32 9 (.slice (some ⟨w.heap.size, 0, none⟩) 1 1)).run Tryd.prog (w.alloc (.cells #[.int .u8 (b : Int)] 5)) = .ok (.string (strB [b])) (w.alloc (.cells #[.int .u8 (b : Int)] 5)) :=
  run_convert_bytes_arg _ 32 5 Tryd.underlying32 Tryd.underlying5 w.heap.size 0 1 1 [(b : Int)] rfl (fun i hi => by
    have : i = 0 := by omega
    subst this
    rw [Nat.add_zero, cell_of_row _ _ _ _ _ _ (heap_alloc_new _ _)]
    rfl) 9 Tryd.underlying9

theorem conv2 (w : World) (a b : Nat) : (convert 32 9 (.slice (some ⟨w.heap.size, 0, none⟩) 2 2)).run Tryd.prog (w.alloc (.cells #[.int .u8 (a : Int), .int .u8 (b : Int)] 5)) = .ok (.string (strB [a, b])) (w.alloc (.cells #[.int .u8 (a : Int), .int .u8 (b : Int)] 5)) :=
  run_convert_bytes_arg _ 32 5 Tryd.underlying32 Tryd.underlying5 w.heap.size 0 2 2 [(a : Int), (b : Int)] rfl (fun i hi => by
    rcases (by omega : i = 0 ∨ i = 1) with rfl | rfl
    · rw [Nat.add_zero, cell_of_row _ _ _ _ _ _ (heap_alloc_new _ _)]
      rfl
    · rw [Nat.zero_add, cell_of_row _ _ _ _ _ _ (heap_alloc_new _ _)]
      rfl) 9 Tryd.underlying9

theorem nums_00 (s : ByteArray) : nums (s ++ { data := #[48, 48] }) = nums s ++ [48, 48] := by
  rw [nums_append]
  rfl

theorem mod2_lt (bs : List Nat) : 2 ≤ mod2 bs ∧ mod2 bs ≤ 98 := by
  have := remTo_lt (bs ++ [48, 48]) (bs.length + 2)
  unfold mod2 rem00
  omega

theorem all_00 {bs : List Nat} (h : bs.all isDC = true) : (bs ++ [48, 48]).all isDC = true := by
  rw [List.all_append, h]
  rfl

theorem rem00_lt (bs : List Nat) : rem00 bs < 97 := remTo_lt _ _

theorem rem00_any (s : ByteArray) (w : World) (hs : s.size ≤ 60000) (hd : (nums s).all isDC = true) : Calls Tryd.prog 33 #[.string (s ++ { data := #[48, 48] })] w fun e w' => e = .returned (.int .i64 (rem00 (nums s) : Nat)) ∧ w = w' := by
  have hsz : (s ++ { data := #[48, 48] }).size = s.size + 2 := ByteArray.size_append
  have h := rem_any (s ++ { data := #[48, 48] }) w (by rw [hsz]; omega) (by rw [nums_00]; exact all_00 hd)
  rw [nums_00, hsz] at h
  unfold rem00
  rw [nums_length]
  exact h

theorem rest00_any (s : ByteArray) (w : World) (hs : s.size ≤ 60000) (hd : (nums s).all isDC = true) : Calls Tryd.prog 28 #[.string (s ++ { data := #[48, 48] })] w fun e w' => e = .returned (.int .i64 (rem00 (nums s) : Nat)) ∧ w = w' := by
  have hsz : (s ++ { data := #[48, 48] }).size = s.size + 2 := ByteArray.size_append
  have h := rest_any (s ++ { data := #[48, 48] }) w (by rw [hsz]; omega) (by rw [nums_00]; exact all_00 hd)
  rw [nums_00, hsz] at h
  unfold rem00
  rw [nums_length]
  exact h

theorem compl_ne {c : Int} {s : ByteArray} (c0 : c ≠ 0) (hc : compl c (nums s) = true) : 1 ≤ s.size := by
  unfold compl at hc
  rw [if_neg c0, nums_length] at hc
  split at hc
  · simp at hc; omega
  · split at hc
    · simp at hc; omega
    · simp at hc; omega

theorem compl_d {s : ByteArray} (hc : compl 1 (nums s) = true) : (nums s).all isD = true := by
  have : compl 1 (nums s) = (decide (1 ≤ (nums s).length) && (nums s).all isD) := rfl
  rw [this, Bool.and_eq_true] at hc
  exact hc.2

theorem compl_dc {s : ByteArray} (hc : compl 2 (nums s) = true) : (nums s).all isDC = true := by
  have : compl 2 (nums s) = (decide (1 ≤ (nums s).length) && (nums s).all isDC) := rfl
  rw [this, Bool.and_eq_true] at hc
  exact hc.2

set_option maxRecDepth 100000 in
set_option maxHeartbeats 1000000 in
theorem complete_0 (s : ByteArray) (w : World) (hs : s.size ≤ 60000) : Calls Tryd.prog 25 #[.int .i64 0, .string s] w fun e w' => e = .returned (cplV 0 s) ∧ Below w.heap.size w w' := by
  have hs1 : s.size ≤ 100000 := by omega
  have hlim : ¬ (65536 : Int) < (s.size : Int) := by omega
  have hfin := Lib.hid (cplV_zero (s := s))
  have hc : compl 0 (nums s) = true := rfl
  go_enter Tryd.func25, Tryd.ntmps25
  go_wp2_with (first
    | (go_at_call 21; refine (valid_any _ _).mono ?_; rintro e w1 ⟨rfl, rfl⟩)
    | (go_at_call 35; refine (compl_any _ _ _ hs1).mono ?_; rintro e w1 ⟨rfl, rfl⟩))
  go_ret2
  exact ⟨by rw [hfin.out]; rfl, Below.refl _ _⟩

set_option maxRecDepth 100000 in
set_option maxHeartbeats 1000000 in
theorem complete_1 (s : ByteArray) (w : World) (hs : s.size ≤ 60000) (hc : compl 1 (nums s) = true) : Calls Tryd.prog 25 #[.int .i64 1, .string s] w fun e w' => e = .returned (cplV 1 s) ∧ Below w.heap.size w w' := by
  have hs1 : s.size ≤ 100000 := by omega
  have hlim : ¬ (65536 : Int) < (s.size : Int) := by omega
  have hfin := Lib.hid (cplV_ok (c := 1) (by omega) hc (by omega))
  have h1 := compl_ne (by omega) hc
  have hd := compl_d hc
  have hno : ¬ 9223372036854775807 < s.size + (strB [48 + luD (nums s)]).size := by rw [size_strB]; simp; omega
  go_enter Tryd.func25, Tryd.ntmps25
  go_wp2_with (first
    | (go_at_call 21; refine (valid_any _ _).mono ?_; rintro e w1 ⟨rfl, rfl⟩)
    | (go_at_call 35; refine (compl_any _ _ _ hs1).mono ?_; rintro e w1 ⟨rfl, rfl⟩)
    | (go_at_call 36; refine (ludig_any _ _ h1 (by omega) hd).mono ?_; rintro e w1 ⟨rfl, rfl⟩))
  go_ret2
  exact ⟨by rw [hfin.out]; rfl, Below.refl _ _⟩

set_option maxRecDepth 100000 in
set_option maxHeartbeats 1000000 in
theorem complete_2 (s : ByteArray) (w : World) (hs : s.size ≤ 60000) (hc : compl 2 (nums s) = true) : Calls Tryd.prog 25 #[.int .i64 2, .string s] w fun e w' => e = .returned (cplV 2 s) ∧ Below w.heap.size w w' := by
  have hs1 : s.size ≤ 100000 := by omega
  have hlim : ¬ (65536 : Int) < (s.size : Int) := by omega
  have hfin := Lib.hid (cplV_ok (c := 2) (by omega) hc (by omega))
  have h1 := compl_ne (by omega) hc
  have hd := compl_dc hc
  have hn0 : ¬ 9223372036854775807 < s.size + ({ data := #[48, 48] } : ByteArray).size := by
    show ¬ 9223372036854775807 < s.size + 2
    omega
  have hn00 : ¬ 9223372036854775807 < s.size + 2 := by omega
  have HREM := Lib.hid (fun w => rem00_any s w hs hd)
  have hrl := rem00_lt (nums s)
  have htl := Lib.hid (show s ++ strB (tailC 2 (nums s)) = (s ++ strB [48 + (98 - rem00 (nums s)) / 10]) ++ strB [48 + (98 - rem00 (nums s)) % 10] by
    rw [ByteArray.append_assoc, strB_append]
    rfl)
  generalize rem00 (nums s) = r at *
  have hsub : (98 : Int) - (r : Int) = ((98 - r : Nat) : Int) := by omega
  generalize 98 - r = m at *
  have hm : m ≤ 98 := by omega
  have hwm : IntKind.i64.wrap (m : Int) = (m : Int) := IntWalk.i64_in _ (by omega)
  have hq2 : (m : Int).tdiv 10 = ((m / 10 : Nat) : Int) := by rw [Int.tdiv_eq_ediv_of_nonneg (by omega)]; omega
  have hr2 : (m : Int).tmod 10 = ((m % 10 : Nat) : Int) := by rw [Int.tmod_eq_emod_of_nonneg (by omega)]; omega
  have hq : (m : Int) / 10 = ((m / 10 : Nat) : Int) := by omega
  have hr : (m : Int) % 10 = ((m % 10 : Nat) : Int) := by omega
  have hd1 : m / 10 ≤ 9 := by omega
  have hd2 : m % 10 ≤ 9 := by omega
  have hno1 : ¬ 9223372036854775807 < s.size + (strB [48 + m / 10]).size := by rw [size_strB]; simp; omega
  have hsz1 : (s ++ strB [48 + m / 10]).size = s.size + 1 := by rw [size_dig]; rfl
  have hno2 : ¬ 9223372036854775807 < s.size + 1 + (strB [48 + m % 10]).size := by rw [size_strB]; simp; omega
  generalize m / 10 = a at *
  generalize m % 10 = b at *
  go_enter Tryd.func25, Tryd.ntmps25
  go_wp2_with (first
    | (go_at_call 21; refine (valid_any _ _).mono ?_; rintro e w1 ⟨rfl, rfl⟩)
    | (go_at_call 35; refine (compl_any _ _ _ hs1).mono ?_; rintro e w1 ⟨rfl, rfl⟩)
    | (go_at_call 33; refine (HREM.out _).mono ?_; rintro e w1 ⟨rfl, rfl⟩)
    | (go_at_call 37; refine (itoa_d _ _ hd1).mono ?_; rintro e w1 ⟨rfl, rfl⟩)
    | (go_at_call 37; refine (itoa_d _ _ hd2).mono ?_; rintro e w1 ⟨rfl, rfl⟩))
  go_ret2
  exact ⟨by rw [hfin.out, htl.out]; rfl, Below.refl _ _⟩

set_option maxRecDepth 100000 in
set_option maxHeartbeats 1000000 in
theorem complete_3 (s : ByteArray) (w : World) (hs : s.size ≤ 60000) (hc : compl 3 (nums s) = true) : Calls Tryd.prog 25 #[.int .i64 3, .string s] w fun e w' => e = .returned (cplV 3 s) ∧ Below w.heap.size w w' := by
  have hs1 : s.size ≤ 100000 := by omega
  have hlim : ¬ (65536 : Int) < (s.size : Int) := by omega
  have hfin := Lib.hid (show cplV 3 s = .tuple #[.string (s ++ strB (hexL (crc (nums s)) 8)), .int .i64 0] from cplV_ok (c := 3) (by omega) hc (by omega))
  have h1 := compl_ne (by omega) hc
  have hno : ¬ 9223372036854775807 < s.size + (strB (hexL (crc (nums s)) 8)).size := by rw [size_strB]; simp [hexL]; omega
  have HT := Lib.hid (fun w => crctext_any s w hs1)
  generalize hexL (crc (nums s)) 8 = hx at *
  go_enter Tryd.func25, Tryd.ntmps25
  go_wp2_with (first
    | (go_at_call 21; refine (valid_any _ _).mono ?_; rintro e w1 ⟨rfl, rfl⟩)
    | (go_at_call 35; refine (compl_any _ _ _ hs1).mono ?_; rintro e w1 ⟨rfl, rfl⟩)
    | (go_at_call 34; refine (HT.out _).mono ?_; rintro e w1 ⟨rfl, hb⟩))
  go_ret2
  exact ⟨by rw [hfin.out]; rfl, hb⟩

set_option maxRecDepth 100000 in
set_option maxHeartbeats 1000000 in
theorem complete_4 (s : ByteArray) (w : World) (hs : s.size ≤ 60000) (hc : compl 4 (nums s) = true) : Calls Tryd.prog 25 #[.int .i64 4, .string s] w fun e w' => e = .returned (cplV 4 s) ∧ Below w.heap.size w w' := by
  have hs1 : s.size ≤ 100000 := by omega
  have hlim : ¬ (65536 : Int) < (s.size : Int) := by omega
  have htl : tailC 4 (nums s) = [65 + letTo (nums s) s.size] := by unfold tailC; rw [nums_length]; rfl
  have hfin := cplV_ok (c := 4) (by omega) hc (by omega)
  rw [htl] at hfin
  have HF := Lib.hid hfin
  clear hfin htl
  have h1 := compl_ne (by omega) hc
  have hcv := fun w => conv1 w (65 + letTo (nums s) s.size)
  have hno : ¬ 9223372036854775807 < s.size + (strB [65 + letTo (nums s) s.size]).size := by rw [size_strB]; simp; omega
  have hlet : ∀ w : World, Calls Tryd.prog 17 #[.string s] w fun e w' => e = .returned (.int .u8 (65 + letTo (nums s) s.size : Nat)) ∧ w = w' := fun w => let_any s w hs1
  have HLET := Lib.hid hlet
  clear hlet
  generalize 65 + letTo (nums s) s.size = b at *
  go_enter Tryd.func25, Tryd.ntmps25
  go_wp2_with (first
    | (go_at_call 21; refine (valid_any _ _).mono ?_; rintro e w1 ⟨rfl, rfl⟩)
    | (go_at_call 35; refine (compl_any _ _ _ hs1).mono ?_; rintro e w1 ⟨rfl, rfl⟩)
    | (go_at_call 17; refine (HLET.out _).mono ?_; rintro e w1 ⟨rfl, rfl⟩))
  go_ret2
  exact ⟨by rw [HF.out]; rfl, box_below _ _⟩

set_option maxRecDepth 100000 in
set_option maxHeartbeats 1000000 in
theorem complete_any (c : Int) (s : ByteArray) (w : World) (hs : s.size ≤ 60000) : Calls Tryd.prog 25 #[.int .i64 c, .string s] w fun e w' => e = .returned (cplV c s) ∧ Below w.heap.size w w' := by
  have hs1 : s.size ≤ 100000 := by omega
  have hlim : ¬ (65536 : Int) < (s.size : Int) := by omega
  by_cases hv : 0 ≤ c ∧ c ≤ 4
  · have hvd : decide (0 ≤ c ∧ c ≤ 4) = true := decide_eq_true hv
    by_cases hc : compl c (nums s) = true
    · rcases (by omega : c = 0 ∨ c = 1 ∨ c = 2 ∨ c = 3 ∨ c = 4) with rfl | rfl | rfl | rfl | rfl
      · exact complete_0 s w hs
      · exact complete_1 s w hs hc
      · exact complete_2 s w hs hc
      · exact complete_3 s w hs hc
      · exact complete_4 s w hs hc
    · rw [Bool.not_eq_true] at hc
      have hfin := Lib.hid (cplV_syn hv hc)
      go_enter Tryd.func25, Tryd.ntmps25
      go_wp2_with (first
        | (go_at_call 21; refine (valid_any _ _).mono ?_; rintro e w1 ⟨rfl, rfl⟩)
        | (go_at_call 35; refine (compl_any _ _ _ hs1).mono ?_; rintro e w1 ⟨rfl, rfl⟩))
      go_ret2
      exact ⟨by rw [hfin.out]; rfl, Below.refl _ _⟩
  · have hvd : decide (0 ≤ c ∧ c ≤ 4) = false := decide_eq_false hv
    have hfin := Lib.hid (cplV_bad (s := s) hv)
    go_enter Tryd.func25, Tryd.ntmps25
    go_wp2_with (go_at_call 21; refine (valid_any _ _).mono ?_; rintro e w1 ⟨rfl, rfl⟩)
    go_ret2
    exact ⟨by rw [hfin.out]; rfl, Below.refl _ _⟩

end Go.Proofs.YthofhljbipkiaaaDoor.Ck
