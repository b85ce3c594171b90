import Derived.Test.YthofhljbipkiaaaCoV
namespace Go.Proofs.Ythofhljbipkiaaa.Co
open Go.RowKit
open Go.Proofs.Ythofhljbipkiaaa.Tp
set_option linter.unusedVariables false

/-- The specification's value of a digit, of a sign; -1: none. -/
def dgV (c : Nat) : Int := if hexB c then (hv c : Int) else -1
def sgV (c : Nat) : Int := if sgB c then (sv c : Int) else -1

theorem hv_dig {c : Nat} (h : 48 ≤ c) (h' : c ≤ 57) : hv c = c - 48 := by unfold hv digB; rw [if_pos (by simp; omega)]
theorem hv_low {c : Nat} (h : 97 ≤ c) : hv c = c - 87 := by unfold hv digB; rw [if_neg (by simp; omega), if_pos h]
theorem hv_cap {c : Nat} (h : 65 ≤ c) (h' : c ≤ 70) : hv c = c - 55 := by unfold hv digB; rw [if_neg (by simp; omega), if_neg (by omega)]

set_option maxHeartbeats 2000000 in
theorem digit_any (c : Nat) (w : World) : Calls Try.prog 65 #[.int .u8 c] w fun e w' => e = .returned (.int .i64 (dgV c)) ∧ w = w' := by
  rcases (by omega : c ≤ 47 ∨ (48 ≤ c ∧ c ≤ 57) ∨ (58 ≤ c ∧ c ≤ 64) ∨ (65 ≤ c ∧ c ≤ 70) ∨ (71 ≤ c ∧ c ≤ 96) ∨ (97 ≤ c ∧ c ≤ 102) ∨ 103 ≤ c) with h | ⟨h, h'⟩ | ⟨h, h'⟩ | ⟨h, h'⟩ | ⟨h, h'⟩ | ⟨h, h'⟩ | h
  · rw [show dgV c = -1 by unfold dgV; rw [if_neg (by unfold hexB digB; simp; omega)]]
    have d0 : decide ((48 : Int) ≤ (c : Int)) = false := decide_eq_false (by omega)
    have d1 : decide ((c : Int) ≤ 57) = true := decide_eq_true (by omega)
    have d2 : decide ((97 : Int) ≤ (c : Int)) = false := decide_eq_false (by omega)
    have d3 : decide ((c : Int) ≤ 102) = true := decide_eq_true (by omega)
    have d4 : decide ((65 : Int) ≤ (c : Int)) = false := decide_eq_false (by omega)
    have d5 : decide ((c : Int) ≤ 70) = true := decide_eq_true (by omega)
    go_enter Try.func65, Try.ntmps65
    go_wp2
    go_ret
    exact ⟨rfl, rfl⟩
  · obtain ⟨q, hq⟩ : ∃ q, c - 48 = q := ⟨_, rfl⟩
    have e1 : (c : Int) - 48 = (q : Int) := by omega
    have e2 : IntKind.u8.wrap (q : Int) = (q : Int) := by rw [IntKind.wrap_u8]; omega
    have e3 : IntKind.i64.wrap (q : Int) = (q : Int) := IntWalk.i64_in _ (by omega)
    rw [show dgV c = (q : Int) by unfold dgV; rw [if_pos (by unfold hexB digB; simp; omega), hv_dig h h', hq]]
    have d0 : decide ((48 : Int) ≤ (c : Int)) = true := decide_eq_true (by omega)
    have d1 : decide ((c : Int) ≤ 57) = true := decide_eq_true (by omega)
    have d2 : decide ((97 : Int) ≤ (c : Int)) = false := decide_eq_false (by omega)
    have d3 : decide ((c : Int) ≤ 102) = true := decide_eq_true (by omega)
    have d4 : decide ((65 : Int) ≤ (c : Int)) = false := decide_eq_false (by omega)
    have d5 : decide ((c : Int) ≤ 70) = true := decide_eq_true (by omega)
    go_enter Try.func65, Try.ntmps65
    go_wp2
    go_ret
    exact ⟨rfl, rfl⟩
  · rw [show dgV c = -1 by unfold dgV; rw [if_neg (by unfold hexB digB; simp; omega)]]
    have d0 : decide ((48 : Int) ≤ (c : Int)) = true := decide_eq_true (by omega)
    have d1 : decide ((c : Int) ≤ 57) = false := decide_eq_false (by omega)
    have d2 : decide ((97 : Int) ≤ (c : Int)) = false := decide_eq_false (by omega)
    have d3 : decide ((c : Int) ≤ 102) = true := decide_eq_true (by omega)
    have d4 : decide ((65 : Int) ≤ (c : Int)) = false := decide_eq_false (by omega)
    have d5 : decide ((c : Int) ≤ 70) = true := decide_eq_true (by omega)
    go_enter Try.func65, Try.ntmps65
    go_wp2
    go_ret
    exact ⟨rfl, rfl⟩
  · obtain ⟨q, hq⟩ : ∃ q, c - 65 = q := ⟨_, rfl⟩
    have e1 : (c : Int) - 65 = (q : Int) := by omega
    have e2 : IntKind.u8.wrap (q : Int) = (q : Int) := by rw [IntKind.wrap_u8]; omega
    have e3 : IntKind.i64.wrap (q : Int) = (q : Int) := IntWalk.i64_in _ (by omega)
    obtain ⟨r, hr⟩ : ∃ r, q + 10 = r := ⟨_, rfl⟩
    have e4 : (q : Int) + 10 = (r : Int) := by omega
    have e5 : IntKind.i64.wrap (r : Int) = (r : Int) := IntWalk.i64_in _ (by omega)
    rw [show dgV c = (r : Int) by unfold dgV; rw [if_pos (by unfold hexB digB; simp; omega), hv_cap h h']; omega]
    have d0 : decide ((48 : Int) ≤ (c : Int)) = true := decide_eq_true (by omega)
    have d1 : decide ((c : Int) ≤ 57) = false := decide_eq_false (by omega)
    have d2 : decide ((97 : Int) ≤ (c : Int)) = false := decide_eq_false (by omega)
    have d3 : decide ((c : Int) ≤ 102) = true := decide_eq_true (by omega)
    have d4 : decide ((65 : Int) ≤ (c : Int)) = true := decide_eq_true (by omega)
    have d5 : decide ((c : Int) ≤ 70) = true := decide_eq_true (by omega)
    go_enter Try.func65, Try.ntmps65
    go_wp2
    go_ret
    exact ⟨rfl, rfl⟩
  · rw [show dgV c = -1 by unfold dgV; rw [if_neg (by unfold hexB digB; simp; omega)]]
    have d0 : decide ((48 : Int) ≤ (c : Int)) = true := decide_eq_true (by omega)
    have d1 : decide ((c : Int) ≤ 57) = false := decide_eq_false (by omega)
    have d2 : decide ((97 : Int) ≤ (c : Int)) = false := decide_eq_false (by omega)
    have d3 : decide ((c : Int) ≤ 102) = true := decide_eq_true (by omega)
    have d4 : decide ((65 : Int) ≤ (c : Int)) = true := decide_eq_true (by omega)
    have d5 : decide ((c : Int) ≤ 70) = false := decide_eq_false (by omega)
    go_enter Try.func65, Try.ntmps65
    go_wp2
    go_ret
    exact ⟨rfl, rfl⟩
  · obtain ⟨q, hq⟩ : ∃ q, c - 97 = q := ⟨_, rfl⟩
    have e1 : (c : Int) - 97 = (q : Int) := by omega
    have e2 : IntKind.u8.wrap (q : Int) = (q : Int) := by rw [IntKind.wrap_u8]; omega
    have e3 : IntKind.i64.wrap (q : Int) = (q : Int) := IntWalk.i64_in _ (by omega)
    obtain ⟨r, hr⟩ : ∃ r, q + 10 = r := ⟨_, rfl⟩
    have e4 : (q : Int) + 10 = (r : Int) := by omega
    have e5 : IntKind.i64.wrap (r : Int) = (r : Int) := IntWalk.i64_in _ (by omega)
    rw [show dgV c = (r : Int) by unfold dgV; rw [if_pos (by unfold hexB digB; simp; omega), hv_low h]; omega]
    have d0 : decide ((48 : Int) ≤ (c : Int)) = true := decide_eq_true (by omega)
    have d1 : decide ((c : Int) ≤ 57) = false := decide_eq_false (by omega)
    have d2 : decide ((97 : Int) ≤ (c : Int)) = true := decide_eq_true (by omega)
    have d3 : decide ((c : Int) ≤ 102) = true := decide_eq_true (by omega)
    have d4 : decide ((65 : Int) ≤ (c : Int)) = true := decide_eq_true (by omega)
    have d5 : decide ((c : Int) ≤ 70) = false := decide_eq_false (by omega)
    go_enter Try.func65, Try.ntmps65
    go_wp2
    go_ret
    exact ⟨rfl, rfl⟩
  · rw [show dgV c = -1 by unfold dgV; rw [if_neg (by unfold hexB digB; simp; omega)]]
    have d0 : decide ((48 : Int) ≤ (c : Int)) = true := decide_eq_true (by omega)
    have d1 : decide ((c : Int) ≤ 57) = false := decide_eq_false (by omega)
    have d2 : decide ((97 : Int) ≤ (c : Int)) = true := decide_eq_true (by omega)
    have d3 : decide ((c : Int) ≤ 102) = false := decide_eq_false (by omega)
    have d4 : decide ((65 : Int) ≤ (c : Int)) = true := decide_eq_true (by omega)
    have d5 : decide ((c : Int) ≤ 70) = false := decide_eq_false (by omega)
    go_enter Try.func65, Try.ntmps65
    go_wp2
    go_ret
    exact ⟨rfl, rfl⟩

set_option maxHeartbeats 2000000 in
theorem sign_any (c : Nat) (w : World) : Calls Try.prog 66 #[.int .u8 c] w fun e w' => e = .returned (.int .i64 (sgV c)) ∧ w = w' := by
  rcases (by omega : c ≤ 42 ∨ c = 43 ∨ (44 ≤ c ∧ c ≤ 46) ∨ c = 47 ∨ (48 ≤ c ∧ c ≤ 57) ∨ (58 ≤ c ∧ c ≤ 64) ∨ (65 ≤ c ∧ c ≤ 90) ∨ (91 ≤ c ∧ c ≤ 96) ∨ (97 ≤ c ∧ c ≤ 122) ∨ 123 ≤ c) with h | rfl | ⟨h, h'⟩ | rfl | ⟨h, h'⟩ | ⟨h, h'⟩ | ⟨h, h'⟩ | ⟨h, h'⟩ | ⟨h, h'⟩ | h
  · rw [show sgV c = -1 by unfold sgV; rw [if_neg (by unfold sgB digB letB; simp; omega)]]
    have d0 : decide ((65 : Int) ≤ (c : Int)) = false := decide_eq_false (by omega)
    have d1 : decide ((c : Int) ≤ 90) = true := decide_eq_true (by omega)
    have d2 : decide ((97 : Int) ≤ (c : Int)) = false := decide_eq_false (by omega)
    have d3 : decide ((c : Int) ≤ 122) = true := decide_eq_true (by omega)
    have d4 : decide ((48 : Int) ≤ (c : Int)) = false := decide_eq_false (by omega)
    have d5 : decide ((c : Int) ≤ 57) = true := decide_eq_true (by omega)
    have q1 : ((c : Int) == 43) = false := beq_eq_false_iff_ne.2 (by omega)
    have q2 : ((c : Int) == 47) = false := beq_eq_false_iff_ne.2 (by omega)
    go_enter Try.func66, Try.ntmps66
    go_wp2
    go_ret
    exact ⟨rfl, rfl⟩
  · rw [show sgV 43 = 62 by decide]
    go_enter Try.func66, Try.ntmps66
    go_wp2
    go_ret
    exact ⟨rfl, rfl⟩
  · rw [show sgV c = -1 by unfold sgV; rw [if_neg (by unfold sgB digB letB; simp; omega)]]
    have d0 : decide ((65 : Int) ≤ (c : Int)) = false := decide_eq_false (by omega)
    have d1 : decide ((c : Int) ≤ 90) = true := decide_eq_true (by omega)
    have d2 : decide ((97 : Int) ≤ (c : Int)) = false := decide_eq_false (by omega)
    have d3 : decide ((c : Int) ≤ 122) = true := decide_eq_true (by omega)
    have d4 : decide ((48 : Int) ≤ (c : Int)) = false := decide_eq_false (by omega)
    have d5 : decide ((c : Int) ≤ 57) = true := decide_eq_true (by omega)
    have q1 : ((c : Int) == 43) = false := beq_eq_false_iff_ne.2 (by omega)
    have q2 : ((c : Int) == 47) = false := beq_eq_false_iff_ne.2 (by omega)
    go_enter Try.func66, Try.ntmps66
    go_wp2
    go_ret
    exact ⟨rfl, rfl⟩
  · rw [show sgV 47 = 63 by decide]
    go_enter Try.func66, Try.ntmps66
    go_wp2
    go_ret
    exact ⟨rfl, rfl⟩
  · obtain ⟨q, hq⟩ : ∃ q, c - 48 = q := ⟨_, rfl⟩
    have e1 : (c : Int) - 48 = (q : Int) := by omega
    have e2 : IntKind.u8.wrap (q : Int) = (q : Int) := by rw [IntKind.wrap_u8]; omega
    have e3 : IntKind.i64.wrap (q : Int) = (q : Int) := IntWalk.i64_in _ (by omega)
    obtain ⟨r, hr⟩ : ∃ r, q + 52 = r := ⟨_, rfl⟩
    have e4 : (q : Int) + 52 = (r : Int) := by omega
    have e5 : IntKind.i64.wrap (r : Int) = (r : Int) := IntWalk.i64_in _ (by omega)
    rw [show sgV c = (r : Int) by unfold sgV; rw [if_pos (by unfold sgB digB letB; simp; omega), sv_dig h h']; omega]
    have d0 : decide ((65 : Int) ≤ (c : Int)) = false := decide_eq_false (by omega)
    have d1 : decide ((c : Int) ≤ 90) = true := decide_eq_true (by omega)
    have d2 : decide ((97 : Int) ≤ (c : Int)) = false := decide_eq_false (by omega)
    have d3 : decide ((c : Int) ≤ 122) = true := decide_eq_true (by omega)
    have d4 : decide ((48 : Int) ≤ (c : Int)) = true := decide_eq_true (by omega)
    have d5 : decide ((c : Int) ≤ 57) = true := decide_eq_true (by omega)
    have q1 : ((c : Int) == 43) = false := beq_eq_false_iff_ne.2 (by omega)
    have q2 : ((c : Int) == 47) = false := beq_eq_false_iff_ne.2 (by omega)
    go_enter Try.func66, Try.ntmps66
    go_wp2
    go_ret
    exact ⟨rfl, rfl⟩
  · rw [show sgV c = -1 by unfold sgV; rw [if_neg (by unfold sgB digB letB; simp; omega)]]
    have d0 : decide ((65 : Int) ≤ (c : Int)) = false := decide_eq_false (by omega)
    have d1 : decide ((c : Int) ≤ 90) = true := decide_eq_true (by omega)
    have d2 : decide ((97 : Int) ≤ (c : Int)) = false := decide_eq_false (by omega)
    have d3 : decide ((c : Int) ≤ 122) = true := decide_eq_true (by omega)
    have d4 : decide ((48 : Int) ≤ (c : Int)) = true := decide_eq_true (by omega)
    have d5 : decide ((c : Int) ≤ 57) = false := decide_eq_false (by omega)
    have q1 : ((c : Int) == 43) = false := beq_eq_false_iff_ne.2 (by omega)
    have q2 : ((c : Int) == 47) = false := beq_eq_false_iff_ne.2 (by omega)
    go_enter Try.func66, Try.ntmps66
    go_wp2
    go_ret
    exact ⟨rfl, rfl⟩
  · obtain ⟨q, hq⟩ : ∃ q, c - 65 = q := ⟨_, rfl⟩
    have e1 : (c : Int) - 65 = (q : Int) := by omega
    have e2 : IntKind.u8.wrap (q : Int) = (q : Int) := by rw [IntKind.wrap_u8]; omega
    have e3 : IntKind.i64.wrap (q : Int) = (q : Int) := IntWalk.i64_in _ (by omega)
    rw [show sgV c = (q : Int) by unfold sgV; rw [if_pos (by unfold sgB digB letB; simp; omega), sv_cap h h', hq]]
    have d0 : decide ((65 : Int) ≤ (c : Int)) = true := decide_eq_true (by omega)
    have d1 : decide ((c : Int) ≤ 90) = true := decide_eq_true (by omega)
    have d2 : decide ((97 : Int) ≤ (c : Int)) = false := decide_eq_false (by omega)
    have d3 : decide ((c : Int) ≤ 122) = true := decide_eq_true (by omega)
    have d4 : decide ((48 : Int) ≤ (c : Int)) = true := decide_eq_true (by omega)
    have d5 : decide ((c : Int) ≤ 57) = false := decide_eq_false (by omega)
    have q1 : ((c : Int) == 43) = false := beq_eq_false_iff_ne.2 (by omega)
    have q2 : ((c : Int) == 47) = false := beq_eq_false_iff_ne.2 (by omega)
    go_enter Try.func66, Try.ntmps66
    go_wp2
    go_ret
    exact ⟨rfl, rfl⟩
  · rw [show sgV c = -1 by unfold sgV; rw [if_neg (by unfold sgB digB letB; simp; omega)]]
    have d0 : decide ((65 : Int) ≤ (c : Int)) = true := decide_eq_true (by omega)
    have d1 : decide ((c : Int) ≤ 90) = false := decide_eq_false (by omega)
    have d2 : decide ((97 : Int) ≤ (c : Int)) = false := decide_eq_false (by omega)
    have d3 : decide ((c : Int) ≤ 122) = true := decide_eq_true (by omega)
    have d4 : decide ((48 : Int) ≤ (c : Int)) = true := decide_eq_true (by omega)
    have d5 : decide ((c : Int) ≤ 57) = false := decide_eq_false (by omega)
    have q1 : ((c : Int) == 43) = false := beq_eq_false_iff_ne.2 (by omega)
    have q2 : ((c : Int) == 47) = false := beq_eq_false_iff_ne.2 (by omega)
    go_enter Try.func66, Try.ntmps66
    go_wp2
    go_ret
    exact ⟨rfl, rfl⟩
  · obtain ⟨q, hq⟩ : ∃ q, c - 97 = q := ⟨_, rfl⟩
    have e1 : (c : Int) - 97 = (q : Int) := by omega
    have e2 : IntKind.u8.wrap (q : Int) = (q : Int) := by rw [IntKind.wrap_u8]; omega
    have e3 : IntKind.i64.wrap (q : Int) = (q : Int) := IntWalk.i64_in _ (by omega)
    obtain ⟨r, hr⟩ : ∃ r, q + 26 = r := ⟨_, rfl⟩
    have e4 : (q : Int) + 26 = (r : Int) := by omega
    have e5 : IntKind.i64.wrap (r : Int) = (r : Int) := IntWalk.i64_in _ (by omega)
    rw [show sgV c = (r : Int) by unfold sgV; rw [if_pos (by unfold sgB digB letB; simp; omega), sv_low h h']; omega]
    have d0 : decide ((65 : Int) ≤ (c : Int)) = true := decide_eq_true (by omega)
    have d1 : decide ((c : Int) ≤ 90) = false := decide_eq_false (by omega)
    have d2 : decide ((97 : Int) ≤ (c : Int)) = true := decide_eq_true (by omega)
    have d3 : decide ((c : Int) ≤ 122) = true := decide_eq_true (by omega)
    have d4 : decide ((48 : Int) ≤ (c : Int)) = true := decide_eq_true (by omega)
    have d5 : decide ((c : Int) ≤ 57) = false := decide_eq_false (by omega)
    have q1 : ((c : Int) == 43) = false := beq_eq_false_iff_ne.2 (by omega)
    have q2 : ((c : Int) == 47) = false := beq_eq_false_iff_ne.2 (by omega)
    go_enter Try.func66, Try.ntmps66
    go_wp2
    go_ret
    exact ⟨rfl, rfl⟩
  · rw [show sgV c = -1 by unfold sgV; rw [if_neg (by unfold sgB digB letB; simp; omega)]]
    have d0 : decide ((65 : Int) ≤ (c : Int)) = true := decide_eq_true (by omega)
    have d1 : decide ((c : Int) ≤ 90) = false := decide_eq_false (by omega)
    have d2 : decide ((97 : Int) ≤ (c : Int)) = true := decide_eq_true (by omega)
    have d3 : decide ((c : Int) ≤ 122) = false := decide_eq_false (by omega)
    have d4 : decide ((48 : Int) ≤ (c : Int)) = true := decide_eq_true (by omega)
    have d5 : decide ((c : Int) ≤ 57) = false := decide_eq_false (by omega)
    have q1 : ((c : Int) == 43) = false := beq_eq_false_iff_ne.2 (by omega)
    have q2 : ((c : Int) == 47) = false := beq_eq_false_iff_ne.2 (by omega)
    go_enter Try.func66, Try.ntmps66
    go_wp2
    go_ret
    exact ⟨rfl, rfl⟩


end Go.Proofs.Ythofhljbipkiaaa.Co
