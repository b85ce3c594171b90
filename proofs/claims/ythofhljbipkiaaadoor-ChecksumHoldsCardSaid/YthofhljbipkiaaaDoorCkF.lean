import Derived.Test.YthofhljbipkiaaaDoorCkE
import Derived.WalkSmall
namespace Go.Proofs.YthofhljbipkiaaaDoor.Ck
open Go.RowKit
open Go.Proofs.YthofhljbipkiaaaDoor.Tp
set_option linter.unusedVariables false

def holds3 (bs : List Nat) : Bool := decide (9 ≤ bs.length) && decide (bs.drop (bs.length - 8) = hexL (crc (bs.take (bs.length - 8))) 8)
def holds4 (bs : List Nat) : Bool := decide (2 ≤ bs.length) && decide (bs.getD (bs.length - 1) 0 = 65 + letTo (bs.take (bs.length - 1)) (bs.length - 1))
def holds (c : Int) (bs : List Nat) : Bool :=
  if c = 0 then true else if c = 1 then luhn bs else if c = 2 then mod97 bs else if c = 3 then holds3 bs else if c = 4 then holds4 bs else false

theorem holds4_val (s : ByteArray) (h2 : 2 ≤ s.size) : holds4 (nums s) = ((nb s (s.size - 1) : Int) == 65 + (letTo (nums (s.extract 0 (s.size - 1))) (s.size - 1) : Int)) := by
  unfold holds4
  rw [nums_length, nums_take, show decide (2 ≤ s.size) = true by simpa using h2, Bool.true_and]
  show decide (nb s (s.size - 1) = _) = _
  rw [Bool.eq_iff_iff]
  simp only [decide_eq_true_eq, beq_iff_eq]
  omega

theorem same_of {f : Nat} {args : Array Value} {w : World} {v : Ending} (h : Calls Tryd.prog f args w fun e w' => e = v ∧ w = w') : Calls Tryd.prog f args w fun e w' => e = v ∧ w' = w := h.mono fun _ _ ⟨he, hw⟩ => ⟨he, hw.symm⟩

theorem below_one {w w1 : World} (hb : Below w.drew.heap.size w.drew w1) : Below w.heap.size w w1 := ((Below.refl w.heap.size w).drew).trans (hb.mono (by simp))

theorem crc_lt (s : ByteArray) : crc (nums s) < 2 ^ 32 := Nat.xor_lt_two_pow (crcTo_lt _ (fun j => by have := nb_lt s j; unfold nb at this; exact this) _) (by decide)

set_option maxRecDepth 100000 in
set_option maxHeartbeats 1000000 in
theorem holds_3 (s : ByteArray) (w : World) (hs : s.size ≤ 100000) : Calls Tryd.prog 19 #[.int .i64 3, .string s] w fun e w' => e = .returned (.bool (holds3 (nums s))) ∧ Below w.heap.size w w' := by
  have hL := Lib.hid (nums_length s)
  by_cases h9 : 9 ≤ s.size
  · have hd : decide (1 ≤ (s.size : Int) - 8) = true := by simp; omega
    have hn : (s.size : Int) - 8 = ((s.size - 8 : Nat) : Int) := by omega
    have hfin := Lib.hid (show holds3 (nums s) = ((s.extract (s.size - 8) s.size).toList == (strB (hexL (crc (nums (s.extract 0 (s.size - 8)))) 8)).toList) by
      unfold holds3
      rw [str_eq, nums_strB (hexL_le _ _), hL.out, nums_drop, nums_take, show decide (9 ≤ s.size) = true by simpa using h9]
      rfl)
    go_enter Tryd.func19, Tryd.ntmps19
    go_wp2_with (go_region_with (go_at_call 34; refine (crctext_any _ _ (Nat.le_trans (size_extract_le _ _ _) hs)).mono ?_; rintro e w1 ⟨rfl, hb⟩))
    all_goals (first | go_ret | go_ret2)
    all_goals exact ⟨by rw [hfin.out]; rfl, below_one hb⟩
  · have hd : decide (1 ≤ (s.size : Int) - 8) = false := by simp; omega
    have hfin := Lib.hid (show holds3 (nums s) = false by unfold holds3; rw [hL.out, show decide (9 ≤ s.size) = false by simp; omega]; rfl)
    go_enter Tryd.func19, Tryd.ntmps19
    go_wp2
    go_quiet (fail)
    go_wp2
    go_ret
    exact ⟨by rw [hfin.out]; rfl, below_drewN (Below.refl _ _) _⟩

set_option maxRecDepth 100000 in
set_option maxHeartbeats 1000000 in
theorem holds_4 (s : ByteArray) (w : World) (hs : s.size ≤ 100000) : Calls Tryd.prog 19 #[.int .i64 4, .string s] w fun e w' => e = .returned (.bool (holds4 (nums s))) ∧ Below w.heap.size w w' := by
  have hL := Lib.hid (nums_length s)
  by_cases h2 : 2 ≤ s.size
  · have hd : decide (1 ≤ (s.size : Int) - 1) = true := by simp; omega
    have hn : (s.size : Int) - 1 = ((s.size - 1 : Nat) : Int) := by omega
    have hd2 : decide ((1 : Int) ≤ ((s.size - 1 : Nat) : Int)) = true := by simp; omega
    have hlt : s.size - 1 < s.size := by omega
    have hnb := nb_at s (s.size - 1) hlt
    have hfin := Lib.hid (holds4_val s h2)
    go_enter Tryd.func19, Tryd.ntmps19
    go_wp2
    go_quiet ((go_at_call 17; with_reducible exact Calls.quiet_of_same (same_of (let_any _ _ (Nat.le_trans (size_extract_le _ _ _) hs)))))
    go_wp2
    go_ret
    exact ⟨by rw [hfin.out]; rfl, below_drewN (Below.refl _ _) _⟩
  · have hd : decide (1 ≤ (s.size : Int) - 1) = false := by simp; omega
    have hfin := Lib.hid (show holds4 (nums s) = false by unfold holds4; rw [hL.out, show decide (2 ≤ s.size) = false by simp; omega]; rfl)
    go_enter Tryd.func19, Tryd.ntmps19
    go_wp2
    go_quiet (fail)
    go_wp2
    go_ret
    exact ⟨by rw [hfin.out]; rfl, below_drewN (Below.refl _ _) _⟩

set_option maxRecDepth 100000 in
set_option maxHeartbeats 1000000 in
theorem holds_any (c : Int) (s : ByteArray) (w : World) (hs : s.size ≤ 100000) : Calls Tryd.prog 19 #[.int .i64 c, .string s] w fun e w' => e = .returned (.bool (holds c (nums s))) ∧ Below w.heap.size w w' := by
  by_cases c0 : c = 0
  · subst c0
    go_enter Tryd.func19, Tryd.ntmps19
    go_wp2
    go_ret
    exact ⟨rfl, Below.refl _ _⟩
  by_cases c1 : c = 1
  · subst c1
    go_enter Tryd.func19, Tryd.ntmps19
    go_wp2_with (go_at_call 11; refine (luhn_any _ _ hs).mono ?_; rintro e w1 ⟨rfl, rfl⟩)
    go_ret
    exact ⟨rfl, Below.refl _ _⟩
  by_cases c2 : c = 2
  · subst c2
    go_enter Tryd.func19, Tryd.ntmps19
    go_wp2_with (go_at_call 13; refine (mod97_any _ _ hs).mono ?_; rintro e w1 ⟨rfl, rfl⟩)
    go_ret
    exact ⟨rfl, Below.refl _ _⟩
  by_cases c3 : c = 3
  · subst c3
    exact holds_3 s w hs
  by_cases c4 : c = 4
  · subst c4
    exact holds_4 s w hs
  · have hv := Lib.hid (show holds c (nums s) = false by unfold holds; rw [if_neg c0, if_neg c1, if_neg c2, if_neg c3, if_neg c4])
    have q0 : (c == 0) = false := by simpa using c0
    have q1 : (c == 1) = false := by simpa using c1
    have q2 : (c == 2) = false := by simpa using c2
    have q3 : (c == 3) = false := by simpa using c3
    have q4 : (c == 4) = false := by simpa using c4
    go_enter Tryd.func19, Tryd.ntmps19
    go_wp2
    go_ret
    exact ⟨by rw [hv.out]; rfl, Below.refl _ _⟩


end Go.Proofs.YthofhljbipkiaaaDoor.Ck
