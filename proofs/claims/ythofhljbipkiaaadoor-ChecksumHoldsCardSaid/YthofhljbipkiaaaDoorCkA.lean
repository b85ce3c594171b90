import Derived.Test.YthofhljbipkiaaaDoorRows
import Derived.WalkKit
import Derived.Lib.Hide
import Derived.WalkSpells
import Derived.WalkLawsBesides
import Derived.Deep.QuietTactic
import Derived.BigQuiet
import Derived.Laws.Bits128
import Derived.Laws.Rows
namespace Go.Proofs.YthofhljbipkiaaaDoor.Ck
open Go.RowKit
set_option linter.unusedVariables false

/-- The bytes of a string as numbers. -/
def nums (s : ByteArray) : List Nat := s.data.toList.map UInt8.toNat
def nb (s : ByteArray) (i : Nat) : Nat := (nums s).getD i 0

theorem nums_length (s : ByteArray) : (nums s).length = s.size := by
  rw [nums, List.length_map, Array.length_toList]
  rfl

theorem nb_at (s : ByteArray) (i : Nat) (h : i < s.size) : (s[i]'h).toNat = nb s i := by
  obtain ⟨⟨l⟩⟩ := s
  have hl : i < l.length := h
  simp only [nb, nums, List.getD, List.getElem?_map, List.getElem?_eq_getElem hl, Option.map_some, Option.getD_some]
  rfl

theorem nb_lt (s : ByteArray) (i : Nat) : nb s i ≤ 255 := by
  unfold nb nums
  rw [List.getD_eq_getElem?_getD, List.getElem?_map]
  cases h : s.data.toList[i]? with
  | none => simp
  | some x => simp; have := x.toNat_lt; omega

def isD (c : Nat) : Bool := decide (48 ≤ c ∧ c ≤ 57)
def isC (c : Nat) : Bool := decide (65 ≤ c ∧ c ≤ 90)

def isDC (c : Nat) : Bool := isD c || isC c

set_option maxHeartbeats 400000 in
theorem isd_any (c : Nat) (w : World) : Calls Tryd.prog 31 #[.int .u8 c] w fun e w' => e = .returned (.bool (isD c)) ∧ w = w' := by
  by_cases h1 : (48 : Int) ≤ c
  · have h : decide ((48 : Int) ≤ c) = true := decide_eq_true h1
    have hv : isD c = decide ((c : Int) ≤ 57) := by
      unfold isD
      rw [Bool.eq_iff_iff]
      simp
      omega
    go_enter Tryd.func31, Tryd.ntmps31
    go_wp2
    go_ret
    exact ⟨by first | rfl | (rw [hv]; rfl), rfl⟩
  · have h : decide ((48 : Int) ≤ c) = false := decide_eq_false h1
    have hv : isD c = false := by
      unfold isD
      rw [decide_eq_false_iff_not]
      omega
    go_enter Tryd.func31, Tryd.ntmps31
    go_wp2
    go_ret
    exact ⟨by first | rfl | (rw [hv]; rfl), rfl⟩

set_option maxHeartbeats 400000 in
theorem isc_any (c : Nat) (w : World) : Calls Tryd.prog 39 #[.int .u8 c] w fun e w' => e = .returned (.bool (isC c)) ∧ w = w' := by
  by_cases h1 : (65 : Int) ≤ c
  · have h : decide ((65 : Int) ≤ c) = true := decide_eq_true h1
    have hv : isC c = decide ((c : Int) ≤ 90) := by
      unfold isC
      rw [Bool.eq_iff_iff]
      simp
      omega
    go_enter Tryd.func39, Tryd.ntmps39
    go_wp2
    go_ret
    exact ⟨by first | rfl | (rw [hv]; rfl), rfl⟩
  · have h : decide ((65 : Int) ≤ c) = false := decide_eq_false h1
    have hv : isC c = false := by
      unfold isC
      rw [decide_eq_false_iff_not]
      omega
    go_enter Tryd.func39, Tryd.ntmps39
    go_wp2
    go_ret
    exact ⟨by first | rfl | (rw [hv]; rfl), rfl⟩

set_option maxHeartbeats 400000 in
theorem isdc_any (c : Nat) (w : World) : Calls Tryd.prog 38 #[.int .u8 c] w fun e w' => e = .returned (.bool (isDC c)) ∧ w = w' := by
  by_cases h1 : isD c = true
  · go_enter Tryd.func38, Tryd.ntmps38
    go_wp2_with (go_at_call 31; refine (isd_any _ _).mono ?_; rintro e w1 ⟨rfl, rfl⟩)
    go_ret
    exact ⟨by unfold isDC; rw [h1]; rfl, rfl⟩
  · rw [Bool.not_eq_true] at h1
    go_enter Tryd.func38, Tryd.ntmps38
    go_wp2_with (first | (go_at_call 31; refine (isd_any _ _).mono ?_; rintro e w1 ⟨rfl, rfl⟩) | (go_at_call 39; refine (isc_any _ _).mono ?_; rintro e w1 ⟨rfl, rfl⟩))
    go_ret
    exact ⟨by unfold isDC; rw [h1]; rfl, rfl⟩

theorem all_to {bs : List Nat} {P : Nat → Bool} (h : ∀ j, j < bs.length → P (bs.getD j 0) = true) : bs.all P = true := by
  rw [List.all_eq_true]
  intro x hx
  obtain ⟨j, hj, rfl⟩ := List.getElem_of_mem hx
  have := h j hj
  rwa [List.getD_eq_getElem?_getD, List.getElem?_eq_getElem hj] at this

theorem not_all {bs : List Nat} {P : Nat → Bool} {k : Nat} (hk : k < bs.length) (h : P (bs.getD k 0) = false) : bs.all P = false := by
  rw [Bool.eq_false_iff]
  intro ht
  rw [List.all_eq_true] at ht
  have := ht _ (List.getElem_mem hk)
  rw [List.getD_eq_getElem?_getD, List.getElem?_eq_getElem hk] at h
  simp only [Option.getD_some] at h
  rw [h] at this
  exact Bool.noConfusion this

set_option maxRecDepth 100000 in
set_option maxHeartbeats 400000 in
theorem every_d (s : ByteArray) (w : World) (hs : s.size ≤ 100000) : Calls Tryd.prog 30 #[.string s, .func (.func 31) #[] #[]] w fun e w' => e = .returned (.bool ((nums s).all isD)) ∧ w = w' := by
  have hL := Lib.hid (nums_length s)
  go_enter Tryd.func30, Tryd.ntmps30
  go_wp2
  go_loopw [8] (fun i w' => w' = w ∧ ∃ k : Nat, k ≤ s.size ∧ i = .int .i64 k ∧ ∀ j, j < k → isD ((nums s).getD j 0) = true) (fun i _ => s.size - (intOf i).toNat)
  case atStart => exact ⟨rfl, 0, by omega, rfl, fun _ h => by omega⟩
  case round =>
    obtain ⟨rfl, k, hk, rfl, hall⟩ := hrel
    have HALL := Lib.hid hall
    clear hall
    by_cases hlt : k < s.size
    · have hnb := nb_at s k hlt
      have HNB := Lib.hid (show nb s k = (nums s).getD k 0 from rfl)
      generalize nb s k = c at *
      cases hd : isD c with
      | true =>
        go_wp2_with (go_at_call 31; refine (isd_any _ _).mono ?_; rintro e w1 ⟨rfl, rfl⟩)
        refine ⟨⟨trivial, k + 1, by omega, by go_num, fun j hj => ?_⟩, by simp [intOf]; omega⟩
        by_cases hjk : j < k
        · exact HALL.out j hjk
        · obtain rfl : j = k := by omega
          rw [← HNB.out]
          exact hd
      | false =>
        have hfin := Lib.hid (not_all (P := isD) (by rw [hL.out]; exact hlt) (by rw [← HNB.out]; exact hd))
        go_wp2_with (go_at_call 31; refine (isd_any _ _).mono ?_; rintro e w1 ⟨rfl, rfl⟩)
        go_ret
        exact ⟨by rw [hfin.out]; rfl, rfl⟩
    · obtain rfl : k = s.size := by omega
      have hfin := Lib.hid (all_to (P := isD) (bs := nums s) (fun j hj => HALL.out j (by rw [← hL.out]; exact hj)))
      go_wp2
      go_ret
      exact ⟨by rw [hfin.out]; rfl, rfl⟩

set_option maxRecDepth 100000 in
set_option maxHeartbeats 400000 in
theorem every_dc (s : ByteArray) (w : World) (hs : s.size ≤ 100000) : Calls Tryd.prog 30 #[.string s, .func (.func 38) #[] #[]] w fun e w' => e = .returned (.bool ((nums s).all isDC)) ∧ w = w' := by
  have hL := Lib.hid (nums_length s)
  go_enter Tryd.func30, Tryd.ntmps30
  go_wp2
  go_loopw [8] (fun i w' => w' = w ∧ ∃ k : Nat, k ≤ s.size ∧ i = .int .i64 k ∧ ∀ j, j < k → isDC ((nums s).getD j 0) = true) (fun i _ => s.size - (intOf i).toNat)
  case atStart => exact ⟨rfl, 0, by omega, rfl, fun _ h => by omega⟩
  case round =>
    obtain ⟨rfl, k, hk, rfl, hall⟩ := hrel
    have HALL := Lib.hid hall
    clear hall
    by_cases hlt : k < s.size
    · have hnb := nb_at s k hlt
      have HNB := Lib.hid (show nb s k = (nums s).getD k 0 from rfl)
      generalize nb s k = c at *
      cases hd : isDC c with
      | true =>
        go_wp2_with (go_at_call 38; refine (isdc_any _ _).mono ?_; rintro e w1 ⟨rfl, rfl⟩)
        refine ⟨⟨trivial, k + 1, by omega, by go_num, fun j hj => ?_⟩, by simp [intOf]; omega⟩
        by_cases hjk : j < k
        · exact HALL.out j hjk
        · obtain rfl : j = k := by omega
          rw [← HNB.out]
          exact hd
      | false =>
        have hfin := Lib.hid (not_all (P := isDC) (by rw [hL.out]; exact hlt) (by rw [← HNB.out]; exact hd))
        go_wp2_with (go_at_call 38; refine (isdc_any _ _).mono ?_; rintro e w1 ⟨rfl, rfl⟩)
        go_ret
        exact ⟨by rw [hfin.out]; rfl, rfl⟩
    · obtain rfl : k = s.size := by omega
      have hfin := Lib.hid (all_to (P := isDC) (bs := nums s) (fun j hj => HALL.out j (by rw [← hL.out]; exact hj)))
      go_wp2
      go_ret
      exact ⟨by rw [hfin.out]; rfl, rfl⟩

set_option maxHeartbeats 400000 in
theorem ismod_any (s : ByteArray) (w : World) (hs : s.size ≤ 100000) : Calls Tryd.prog 32 #[.string s] w fun e w' => e = .returned (.bool ((nums s).all isDC)) ∧ w = w' := by
  go_enter Tryd.func32, Tryd.ntmps32
  go_wp2_with (go_at_call 30; refine (every_dc _ _ hs).mono ?_; rintro e w1 ⟨rfl, rfl⟩)
  go_ret
  exact ⟨rfl, rfl⟩


def remS (c r : Nat) : Nat := if isD c then (r * 10 + (c - 48)) % 97 else (r * 100 + (c - 65) + 10) % 97
def remTo (bs : List Nat) : Nat → Nat
  | 0 => 0
  | k + 1 => remS (bs.getD k 0) (remTo bs k)

theorem remS_lt (c r : Nat) : remS c r < 97 := by
  unfold remS
  split <;> exact Nat.mod_lt _ (by omega)

theorem remTo_lt (bs : List Nat) (k : Nat) : remTo bs k < 97 := by
  cases k with
  | zero => simp [remTo]
  | succ k => exact remS_lt _ _

theorem all_at {bs : List Nat} {P : Nat → Bool} (h : bs.all P = true) {k : Nat} (hk : k < bs.length) : P (bs.getD k 0) = true := by
  rw [List.all_eq_true] at h
  rw [List.getD_eq_getElem?_getD, List.getElem?_eq_getElem hk]
  exact h _ (List.getElem_mem hk)

theorem isDC_cases {c : Nat} (h : isDC c = true) : (isD c = true ∧ 48 ≤ c ∧ c ≤ 57) ∨ (isD c = false ∧ 65 ≤ c ∧ c ≤ 90) := by
  unfold isDC at h
  cases hd : isD c with
  | true => left; exact ⟨rfl, of_decide_eq_true hd⟩
  | false =>
    right
    rw [hd] at h
    exact ⟨rfl, of_decide_eq_true h⟩

theorem rem_int (a : Nat) (h : a ≤ 9223372036854775807) : Int.tmod (a : Int) 97 = ((a % 97 : Nat) : Int) := by
  rw [Int.tmod_eq_emod_of_nonneg (by omega)]
  omega

set_option maxRecDepth 100000 in
set_option maxHeartbeats 400000 in
theorem rem_any (s : ByteArray) (w : World) (hs : s.size ≤ 100000) (ha : (nums s).all isDC = true) : Calls Tryd.prog 33 #[.string s] w fun e w' => e = .returned (.int .i64 (remTo (nums s) s.size : Nat)) ∧ w = w' := by
  have HA := Lib.hid ha
  have hL := Lib.hid (nums_length s)
  clear ha
  go_enter Tryd.func33, Tryd.ntmps33
  go_wp2
  go_loopw [3, 7] (fun r i w' => w' = w ∧ ∃ k : Nat, k ≤ s.size ∧ i = .int .i64 k ∧ r = .int .i64 (remTo (nums s) k : Nat)) (fun _ i _ => s.size - (intOf i).toNat)
  case atStart => exact ⟨rfl, 0, by omega, rfl, rfl⟩
  case round =>
    obtain ⟨rfl, k, hk, rfl, rfl⟩ := hrel
    by_cases hlt : k < s.size
    · have hnb := nb_at s k hlt
      have hb := all_at HA.out (k := k) (by rw [hL.out]; exact hlt)
      have hst : remTo (nums s) (k + 1) = remS (nb s k) (remTo (nums s) k) := rfl
      rw [show (nums s).getD k 0 = nb s k from rfl] at hb
      have hr := remTo_lt (nums s) k
      have HST := Lib.hid hst
      clear hst
      generalize nb s k = c at *
      generalize remTo (nums s) k = r at *
      rcases isDC_cases hb with ⟨hd, h1, h2⟩ | ⟨hd, h1, h2⟩
      · clear hb
        have hv : remS c r = (r * 10 + (c - 48)) % 97 := by unfold remS; rw [hd]; rfl
        have HV := Lib.hid (HST.out.trans hv)
        clear hv
        go_wp2_with (go_at_call 31; refine (isd_any _ _).mono ?_; rintro e w1 ⟨rfl, rfl⟩)
        exact ⟨⟨trivial, k + 1, by omega, by go_num, by rw [HV.out]; go_num⟩, by simp [intOf]; omega⟩
      · clear hb
        have hv : remS c r = (r * 100 + (c - 65) + 10) % 97 := by unfold remS; rw [hd]; rfl
        have HV := Lib.hid (HST.out.trans hv)
        clear hv
        go_wp2_with (go_at_call 31; refine (isd_any _ _).mono ?_; rintro e w1 ⟨rfl, rfl⟩)
        exact ⟨⟨trivial, k + 1, by omega, by go_num, by rw [HV.out]; go_num⟩, by simp [intOf]; omega⟩
    · obtain rfl : k = s.size := by omega
      go_wp2
      go_ret
      exact ⟨rfl, rfl⟩

set_option maxRecDepth 100000 in
set_option maxHeartbeats 400000 in
theorem rest_any (s : ByteArray) (w : World) (hs : s.size ≤ 100000) (ha : (nums s).all isDC = true) : Calls Tryd.prog 28 #[.string s] w fun e w' => e = .returned (.int .i64 (remTo (nums s) s.size : Nat)) ∧ w = w' := by
  have HA := Lib.hid ha
  have hL := Lib.hid (nums_length s)
  clear ha
  go_enter Tryd.func28, Tryd.ntmps28
  go_wp2
  go_loopw [3, 4] (fun r i w' => w' = w ∧ ∃ k : Nat, k ≤ s.size ∧ i = .int .i64 k ∧ r = .int .i64 (remTo (nums s) k : Nat)) (fun _ i _ => s.size - (intOf i).toNat)
  case atStart => exact ⟨rfl, 0, by omega, rfl, rfl⟩
  case round =>
    obtain ⟨rfl, k, hk, rfl, rfl⟩ := hrel
    by_cases hlt : k < s.size
    · have hnb := nb_at s k hlt
      have hb := all_at HA.out (k := k) (by rw [hL.out]; exact hlt)
      have hst : remTo (nums s) (k + 1) = remS (nb s k) (remTo (nums s) k) := rfl
      rw [show (nums s).getD k 0 = nb s k from rfl] at hb
      have hr := remTo_lt (nums s) k
      have HST := Lib.hid hst
      clear hst
      generalize nb s k = c at *
      generalize remTo (nums s) k = r at *
      rcases isDC_cases hb with ⟨hd, h1, h2⟩ | ⟨hd, h1, h2⟩
      · clear hb
        have hv : remS c r = (r * 10 + (c - 48)) % 97 := by unfold remS; rw [hd]; rfl
        have HV := Lib.hid (HST.out.trans hv)
        clear hv
        have hle : decide ((c : Int) ≤ 57) = true := by simp; omega
        go_wp2
        exact ⟨⟨trivial, k + 1, by omega, by go_num, by rw [HV.out]; go_num⟩, by simp [intOf]; omega⟩
      · clear hb
        have hv : remS c r = (r * 100 + (c - 65) + 10) % 97 := by unfold remS; rw [hd]; rfl
        have HV := Lib.hid (HST.out.trans hv)
        clear hv
        have hle : decide ((c : Int) ≤ 57) = false := by simp; omega
        go_wp2
        exact ⟨⟨trivial, k + 1, by omega, by go_num, by rw [HV.out]; go_num⟩, by simp [intOf]; omega⟩
    · obtain rfl : k = s.size := by omega
      go_wp2
      go_ret
      exact ⟨rfl, rfl⟩


end Go.Proofs.YthofhljbipkiaaaDoor.Ck
