import Derived.Test.YthofhljbipkiaaaCoR
import Derived.Test.YthofhljbipkiaaaCoD1
namespace Go.Proofs.Ythofhljbipkiaaa.Co
open Go.RowKit
open Go.Proofs.Ythofhljbipkiaaa.Tp
set_option linter.unusedVariables false

def sgB (c : Nat) : Bool := digB c || (letB c || (decide (c = 43) || decide (c = 47)))
def sv (c : Nat) : Nat := if 65 ≤ c ∧ c ≤ 90 then c - 65 else if 97 ≤ c ∧ c ≤ 122 then c - 71 else if digB c then c + 4 else if c = 43 then 62 else 63

set_option maxHeartbeats 2000000 in
theorem issign_any (c : Nat) (w : World) : Calls Try.prog 34 #[.int .u8 c] w fun e w' => e = .returned (.bool (sgB c)) ∧ w = w' := by
  rcases (by omega : c ≤ 42 ∨ c = 43 ∨ (44 ≤ c ∧ c ≤ 46) ∨ c = 47 ∨ (48 ≤ c ∧ c ≤ 57) ∨ (58 ≤ c ∧ c ≤ 64) ∨ (65 ≤ c ∧ c ≤ 90) ∨ (91 ≤ c ∧ c ≤ 96) ∨ (97 ≤ c ∧ c ≤ 122) ∨ 123 ≤ c) with h | rfl | ⟨h, h'⟩ | rfl | ⟨h, h'⟩ | ⟨h, h'⟩ | ⟨h, h'⟩ | ⟨h, h'⟩ | ⟨h, h'⟩ | h
  · rw [show sgB c = false by unfold sgB digB letB; simp; omega]
    have lt : letB c = false := by unfold letB; simp; omega
    have dg : decide (48 ≤ c ∧ c ≤ 57) = false := decide_eq_false (by omega)
    have q1 : ((c : Int) == 43) = false := beq_eq_false_iff_ne.2 (by omega)
    have q2 : ((c : Int) == 47) = false := beq_eq_false_iff_ne.2 (by omega)
    go_enter Try.func34, Try.ntmps34
    go_wp2_with (first
      | (go_at_call 45; refine (isd_any _ _).mono ?_; rintro e w1 ⟨rfl, rfl⟩; rw [dg])
      | (go_at_call 46; refine (islet_any _ _).mono ?_; rintro e w1 ⟨rfl, rfl⟩; rw [lt]))
    go_ret
    exact ⟨rfl, rfl⟩
  · rw [show sgB 43 = true by decide]
    have lt : letB 43 = false := by decide
    have dg : decide (48 ≤ 43 ∧ 43 ≤ 57) = false := by decide
    go_enter Try.func34, Try.ntmps34
    go_wp2_with (first
      | (go_at_call 45; refine (isd_any _ _).mono ?_; rintro e w1 ⟨rfl, rfl⟩; rw [dg])
      | (go_at_call 46; refine (islet_any _ _).mono ?_; rintro e w1 ⟨rfl, rfl⟩; rw [lt]))
    go_ret
    exact ⟨rfl, rfl⟩
  · rw [show sgB c = false by unfold sgB digB letB; simp; omega]
    have lt : letB c = false := by unfold letB; simp; omega
    have dg : decide (48 ≤ c ∧ c ≤ 57) = false := decide_eq_false (by omega)
    have q1 : ((c : Int) == 43) = false := beq_eq_false_iff_ne.2 (by omega)
    have q2 : ((c : Int) == 47) = false := beq_eq_false_iff_ne.2 (by omega)
    go_enter Try.func34, Try.ntmps34
    go_wp2_with (first
      | (go_at_call 45; refine (isd_any _ _).mono ?_; rintro e w1 ⟨rfl, rfl⟩; rw [dg])
      | (go_at_call 46; refine (islet_any _ _).mono ?_; rintro e w1 ⟨rfl, rfl⟩; rw [lt]))
    go_ret
    exact ⟨rfl, rfl⟩
  · rw [show sgB 47 = true by decide]
    have lt : letB 47 = false := by decide
    have dg : decide (48 ≤ 47 ∧ 47 ≤ 57) = false := by decide
    go_enter Try.func34, Try.ntmps34
    go_wp2_with (first
      | (go_at_call 45; refine (isd_any _ _).mono ?_; rintro e w1 ⟨rfl, rfl⟩; rw [dg])
      | (go_at_call 46; refine (islet_any _ _).mono ?_; rintro e w1 ⟨rfl, rfl⟩; rw [lt]))
    go_ret
    exact ⟨rfl, rfl⟩
  · rw [show sgB c = true by unfold sgB digB letB; simp; omega]
    have lt : letB c = false := by unfold letB; simp; omega
    have dg : decide (48 ≤ c ∧ c ≤ 57) = true := decide_eq_true (by omega)
    have q1 : ((c : Int) == 43) = false := beq_eq_false_iff_ne.2 (by omega)
    have q2 : ((c : Int) == 47) = false := beq_eq_false_iff_ne.2 (by omega)
    go_enter Try.func34, Try.ntmps34
    go_wp2_with (first
      | (go_at_call 45; refine (isd_any _ _).mono ?_; rintro e w1 ⟨rfl, rfl⟩; rw [dg])
      | (go_at_call 46; refine (islet_any _ _).mono ?_; rintro e w1 ⟨rfl, rfl⟩; rw [lt]))
    go_ret
    exact ⟨rfl, rfl⟩
  · rw [show sgB c = false by unfold sgB digB letB; simp; omega]
    have lt : letB c = false := by unfold letB; simp; omega
    have dg : decide (48 ≤ c ∧ c ≤ 57) = false := decide_eq_false (by omega)
    have q1 : ((c : Int) == 43) = false := beq_eq_false_iff_ne.2 (by omega)
    have q2 : ((c : Int) == 47) = false := beq_eq_false_iff_ne.2 (by omega)
    go_enter Try.func34, Try.ntmps34
    go_wp2_with (first
      | (go_at_call 45; refine (isd_any _ _).mono ?_; rintro e w1 ⟨rfl, rfl⟩; rw [dg])
      | (go_at_call 46; refine (islet_any _ _).mono ?_; rintro e w1 ⟨rfl, rfl⟩; rw [lt]))
    go_ret
    exact ⟨rfl, rfl⟩
  · rw [show sgB c = true by unfold sgB digB letB; simp; omega]
    have lt : letB c = true := by unfold letB; simp; omega
    have dg : decide (48 ≤ c ∧ c ≤ 57) = false := decide_eq_false (by omega)
    have q1 : ((c : Int) == 43) = false := beq_eq_false_iff_ne.2 (by omega)
    have q2 : ((c : Int) == 47) = false := beq_eq_false_iff_ne.2 (by omega)
    go_enter Try.func34, Try.ntmps34
    go_wp2_with (first
      | (go_at_call 45; refine (isd_any _ _).mono ?_; rintro e w1 ⟨rfl, rfl⟩; rw [dg])
      | (go_at_call 46; refine (islet_any _ _).mono ?_; rintro e w1 ⟨rfl, rfl⟩; rw [lt]))
    go_ret
    exact ⟨rfl, rfl⟩
  · rw [show sgB c = false by unfold sgB digB letB; simp; omega]
    have lt : letB c = false := by unfold letB; simp; omega
    have dg : decide (48 ≤ c ∧ c ≤ 57) = false := decide_eq_false (by omega)
    have q1 : ((c : Int) == 43) = false := beq_eq_false_iff_ne.2 (by omega)
    have q2 : ((c : Int) == 47) = false := beq_eq_false_iff_ne.2 (by omega)
    go_enter Try.func34, Try.ntmps34
    go_wp2_with (first
      | (go_at_call 45; refine (isd_any _ _).mono ?_; rintro e w1 ⟨rfl, rfl⟩; rw [dg])
      | (go_at_call 46; refine (islet_any _ _).mono ?_; rintro e w1 ⟨rfl, rfl⟩; rw [lt]))
    go_ret
    exact ⟨rfl, rfl⟩
  · rw [show sgB c = true by unfold sgB digB letB; simp; omega]
    have lt : letB c = true := by unfold letB; simp; omega
    have dg : decide (48 ≤ c ∧ c ≤ 57) = false := decide_eq_false (by omega)
    have q1 : ((c : Int) == 43) = false := beq_eq_false_iff_ne.2 (by omega)
    have q2 : ((c : Int) == 47) = false := beq_eq_false_iff_ne.2 (by omega)
    go_enter Try.func34, Try.ntmps34
    go_wp2_with (first
      | (go_at_call 45; refine (isd_any _ _).mono ?_; rintro e w1 ⟨rfl, rfl⟩; rw [dg])
      | (go_at_call 46; refine (islet_any _ _).mono ?_; rintro e w1 ⟨rfl, rfl⟩; rw [lt]))
    go_ret
    exact ⟨rfl, rfl⟩
  · rw [show sgB c = false by unfold sgB digB letB; simp; omega]
    have lt : letB c = false := by unfold letB; simp; omega
    have dg : decide (48 ≤ c ∧ c ≤ 57) = false := decide_eq_false (by omega)
    have q1 : ((c : Int) == 43) = false := beq_eq_false_iff_ne.2 (by omega)
    have q2 : ((c : Int) == 47) = false := beq_eq_false_iff_ne.2 (by omega)
    go_enter Try.func34, Try.ntmps34
    go_wp2_with (first
      | (go_at_call 45; refine (isd_any _ _).mono ?_; rintro e w1 ⟨rfl, rfl⟩; rw [dg])
      | (go_at_call 46; refine (islet_any _ _).mono ?_; rintro e w1 ⟨rfl, rfl⟩; rw [lt]))
    go_ret
    exact ⟨rfl, rfl⟩

theorem sg_or {c : Nat} (h : sgB c = true) : c = 43 ∨ c = 47 ∨ (48 ≤ c ∧ c ≤ 57) ∨ (65 ≤ c ∧ c ≤ 90) ∨ (97 ≤ c ∧ c ≤ 122) := by
  unfold sgB digB letB at h
  simp only [Bool.or_eq_true, decide_eq_true_eq] at h
  omega

theorem sv_cap {c : Nat} (h : 65 ≤ c) (h' : c ≤ 90) : sv c = c - 65 := if_pos ⟨h, h'⟩
theorem sv_low {c : Nat} (h : 97 ≤ c) (h' : c ≤ 122) : sv c = c - 71 := by unfold sv; rw [if_neg (by omega), if_pos ⟨h, h'⟩]
theorem sv_dig {c : Nat} (h : 48 ≤ c) (h' : c ≤ 57) : sv c = c + 4 := by unfold sv digB; rw [if_neg (by omega), if_neg (by omega), if_pos (by simp; omega)]

set_option maxHeartbeats 2000000 in
theorem sgval_any (c : Nat) (w : World) (h : sgB c = true) : Calls Try.prog 67 #[.int .u8 c] w fun e w' => e = .returned (.int .u8 (sv c : Nat)) ∧ w = w' := by
  rcases sg_or h with rfl | rfl | ⟨h, h'⟩ | ⟨h, h'⟩ | ⟨h, h'⟩
  · rw [show sv 43 = 62 by decide]
    have dg : decide (48 ≤ 43 ∧ 43 ≤ 57) = false := by decide
    go_enter Try.func67, Try.ntmps67
    go_wp2_with (go_at_call 45; refine (isd_any _ _).mono ?_; rintro e w1 ⟨rfl, rfl⟩; rw [dg])
    go_ret
    exact ⟨rfl, rfl⟩
  · rw [show sv 47 = 63 by decide]
    have dg : decide (48 ≤ 47 ∧ 47 ≤ 57) = false := by decide
    go_enter Try.func67, Try.ntmps67
    go_wp2_with (go_at_call 45; refine (isd_any _ _).mono ?_; rintro e w1 ⟨rfl, rfl⟩; rw [dg])
    go_ret
    exact ⟨rfl, rfl⟩
  · obtain ⟨q, hq⟩ : ∃ q, c - 48 = q := ⟨_, rfl⟩
    have e1 : (c : Int) - 48 = (q : Int) := by omega
    have e2 : IntKind.u8.wrap (q : Int) = (q : Int) := by rw [IntKind.wrap_u8]; omega
    obtain ⟨r, hr⟩ : ∃ r, q + 52 = r := ⟨_, rfl⟩
    have e3 : (q : Int) + 52 = (r : Int) := by omega
    have e4 : IntKind.u8.wrap (r : Int) = (r : Int) := by rw [IntKind.wrap_u8]; omega
    rw [show sv c = r by rw [sv_dig h h']; omega]
    have dg : decide (48 ≤ c ∧ c ≤ 57) = true := decide_eq_true (by omega)
    have d0 : decide ((65 : Int) ≤ (c : Int)) = false := decide_eq_false (by omega)
    have d1 : decide ((c : Int) ≤ 90) = true := decide_eq_true (by omega)
    have d2 : decide ((97 : Int) ≤ (c : Int)) = false := decide_eq_false (by omega)
    have d3 : decide ((c : Int) ≤ 122) = true := decide_eq_true (by omega)
    go_enter Try.func67, Try.ntmps67
    go_wp2_with (go_at_call 45; refine (isd_any _ _).mono ?_; rintro e w1 ⟨rfl, rfl⟩; rw [dg])
    go_ret
    exact ⟨rfl, rfl⟩
  · obtain ⟨q, hq⟩ : ∃ q, c - 65 = q := ⟨_, rfl⟩
    have e1 : (c : Int) - 65 = (q : Int) := by omega
    have e2 : IntKind.u8.wrap (q : Int) = (q : Int) := by rw [IntKind.wrap_u8]; omega
    rw [show sv c = q by rw [sv_cap h h', hq]]
    have dg : decide (48 ≤ c ∧ c ≤ 57) = false := decide_eq_false (by omega)
    have d0 : decide ((65 : Int) ≤ (c : Int)) = true := decide_eq_true (by omega)
    have d1 : decide ((c : Int) ≤ 90) = true := decide_eq_true (by omega)
    have d2 : decide ((97 : Int) ≤ (c : Int)) = false := decide_eq_false (by omega)
    have d3 : decide ((c : Int) ≤ 122) = true := decide_eq_true (by omega)
    go_enter Try.func67, Try.ntmps67
    go_wp2_with (go_at_call 45; refine (isd_any _ _).mono ?_; rintro e w1 ⟨rfl, rfl⟩; rw [dg])
    go_ret
    exact ⟨rfl, rfl⟩
  · obtain ⟨q, hq⟩ : ∃ q, c - 97 = q := ⟨_, rfl⟩
    have e1 : (c : Int) - 97 = (q : Int) := by omega
    have e2 : IntKind.u8.wrap (q : Int) = (q : Int) := by rw [IntKind.wrap_u8]; omega
    obtain ⟨r, hr⟩ : ∃ r, q + 26 = r := ⟨_, rfl⟩
    have e3 : (q : Int) + 26 = (r : Int) := by omega
    have e4 : IntKind.u8.wrap (r : Int) = (r : Int) := by rw [IntKind.wrap_u8]; omega
    rw [show sv c = r by rw [sv_low h h']; omega]
    have dg : decide (48 ≤ c ∧ c ≤ 57) = false := decide_eq_false (by omega)
    have d0 : decide ((65 : Int) ≤ (c : Int)) = true := decide_eq_true (by omega)
    have d1 : decide ((c : Int) ≤ 90) = false := decide_eq_false (by omega)
    have d2 : decide ((97 : Int) ≤ (c : Int)) = true := decide_eq_true (by omega)
    have d3 : decide ((c : Int) ≤ 122) = true := decide_eq_true (by omega)
    go_enter Try.func67, Try.ntmps67
    go_wp2_with (go_at_call 45; refine (isd_any _ _).mono ?_; rintro e w1 ⟨rfl, rfl⟩; rw [dg])
    go_ret
    exact ⟨rfl, rfl⟩

theorem sv_lt {c : Nat} (h : sgB c = true) : sv c < 64 := by
  rcases sg_or h with rfl | rfl | ⟨h, h'⟩ | ⟨h, h'⟩ | ⟨h, h'⟩
  · decide
  · decide
  · rw [sv_dig h h']; omega
  · rw [sv_cap h h']; omega
  · rw [sv_low h h']; omega

theorem sv_sgC : ∀ d, d < 64 → sgB (sgC d) = true ∧ sv (sgC d) = d := by decide

end Go.Proofs.Ythofhljbipkiaaa.Co
