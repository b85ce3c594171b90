import Derived.Test.YthofhljbipkiaaaCoC
namespace Go.Proofs.Ythofhljbipkiaaa.Co
open Go.RowKit
open Go.Proofs.Ythofhljbipkiaaa.Tp
set_option linter.unusedVariables false

def hexB (c : Nat) : Bool := digB c || (decide (97 ≤ c ∧ c ≤ 102) || decide (65 ≤ c ∧ c ≤ 70))
def hv (c : Nat) : Nat := if digB c then c - 48 else if 97 ≤ c then c - 87 else c - 55

theorem hv_lt {c : Nat} (h : hexB c = true) : hv c < 16 := by
  unfold hexB digB at h
  unfold hv digB
  simp only [Bool.or_eq_true, decide_eq_true_eq] at h
  split
  · rename_i h1
    simp at h1
    omega
  · split <;> omega

set_option maxHeartbeats 2000000 in
theorem ishex_any (c : Nat) (w : World) : Calls Try.prog 33 #[.int .u8 c] w fun e w' => e = .returned (.bool (hexB c)) ∧ w = w' := by
  rcases (by omega : c ≤ 47 ∨ (48 ≤ c ∧ c ≤ 57) ∨ (58 ≤ c ∧ c ≤ 64) ∨ (65 ≤ c ∧ c ≤ 70) ∨ (71 ≤ c ∧ c ≤ 96) ∨ (97 ≤ c ∧ c ≤ 102) ∨ 103 ≤ c) with h | ⟨h, h'⟩ | ⟨h, h'⟩ | ⟨h, h'⟩ | ⟨h, h'⟩ | ⟨h, h'⟩ | h
  · rw [show hexB c = false by unfold hexB digB; simp; omega]
    have dg : decide (48 ≤ c ∧ c ≤ 57) = false := decide_eq_false (by omega)
    have d0 : decide ((97 : Int) ≤ (c : Int)) = false := decide_eq_false (by omega)
    have d1 : decide ((c : Int) ≤ 102) = true := decide_eq_true (by omega)
    have d2 : decide ((65 : Int) ≤ (c : Int)) = false := decide_eq_false (by omega)
    have d3 : decide ((c : Int) ≤ 70) = true := decide_eq_true (by omega)
    go_enter Try.func33, Try.ntmps33
    go_wp2_with (go_at_call 45; refine (isd_any _ _).mono ?_; rintro e w1 ⟨rfl, rfl⟩; rw [dg])
    go_ret
    exact ⟨rfl, rfl⟩
  · rw [show hexB c = true by unfold hexB digB; simp; omega]
    have dg : decide (48 ≤ c ∧ c ≤ 57) = true := decide_eq_true (by omega)
    have d0 : decide ((97 : Int) ≤ (c : Int)) = false := decide_eq_false (by omega)
    have d1 : decide ((c : Int) ≤ 102) = true := decide_eq_true (by omega)
    have d2 : decide ((65 : Int) ≤ (c : Int)) = false := decide_eq_false (by omega)
    have d3 : decide ((c : Int) ≤ 70) = true := decide_eq_true (by omega)
    go_enter Try.func33, Try.ntmps33
    go_wp2_with (go_at_call 45; refine (isd_any _ _).mono ?_; rintro e w1 ⟨rfl, rfl⟩; rw [dg])
    go_ret
    exact ⟨rfl, rfl⟩
  · rw [show hexB c = false by unfold hexB digB; simp; omega]
    have dg : decide (48 ≤ c ∧ c ≤ 57) = false := decide_eq_false (by omega)
    have d0 : decide ((97 : Int) ≤ (c : Int)) = false := decide_eq_false (by omega)
    have d1 : decide ((c : Int) ≤ 102) = true := decide_eq_true (by omega)
    have d2 : decide ((65 : Int) ≤ (c : Int)) = false := decide_eq_false (by omega)
    have d3 : decide ((c : Int) ≤ 70) = true := decide_eq_true (by omega)
    go_enter Try.func33, Try.ntmps33
    go_wp2_with (go_at_call 45; refine (isd_any _ _).mono ?_; rintro e w1 ⟨rfl, rfl⟩; rw [dg])
    go_ret
    exact ⟨rfl, rfl⟩
  · rw [show hexB c = true by unfold hexB digB; simp; omega]
    have dg : decide (48 ≤ c ∧ c ≤ 57) = false := decide_eq_false (by omega)
    have d0 : decide ((97 : Int) ≤ (c : Int)) = false := decide_eq_false (by omega)
    have d1 : decide ((c : Int) ≤ 102) = true := decide_eq_true (by omega)
    have d2 : decide ((65 : Int) ≤ (c : Int)) = true := decide_eq_true (by omega)
    have d3 : decide ((c : Int) ≤ 70) = true := decide_eq_true (by omega)
    go_enter Try.func33, Try.ntmps33
    go_wp2_with (go_at_call 45; refine (isd_any _ _).mono ?_; rintro e w1 ⟨rfl, rfl⟩; rw [dg])
    go_ret
    exact ⟨rfl, rfl⟩
  · rw [show hexB c = false by unfold hexB digB; simp; omega]
    have dg : decide (48 ≤ c ∧ c ≤ 57) = false := decide_eq_false (by omega)
    have d0 : decide ((97 : Int) ≤ (c : Int)) = false := decide_eq_false (by omega)
    have d1 : decide ((c : Int) ≤ 102) = true := decide_eq_true (by omega)
    have d2 : decide ((65 : Int) ≤ (c : Int)) = true := decide_eq_true (by omega)
    have d3 : decide ((c : Int) ≤ 70) = false := decide_eq_false (by omega)
    go_enter Try.func33, Try.ntmps33
    go_wp2_with (go_at_call 45; refine (isd_any _ _).mono ?_; rintro e w1 ⟨rfl, rfl⟩; rw [dg])
    go_ret
    exact ⟨rfl, rfl⟩
  · rw [show hexB c = true by unfold hexB digB; simp; omega]
    have dg : decide (48 ≤ c ∧ c ≤ 57) = false := decide_eq_false (by omega)
    have d0 : decide ((97 : Int) ≤ (c : Int)) = true := decide_eq_true (by omega)
    have d1 : decide ((c : Int) ≤ 102) = true := decide_eq_true (by omega)
    have d2 : decide ((65 : Int) ≤ (c : Int)) = true := decide_eq_true (by omega)
    have d3 : decide ((c : Int) ≤ 70) = false := decide_eq_false (by omega)
    go_enter Try.func33, Try.ntmps33
    go_wp2_with (go_at_call 45; refine (isd_any _ _).mono ?_; rintro e w1 ⟨rfl, rfl⟩; rw [dg])
    go_ret
    exact ⟨rfl, rfl⟩
  · rw [show hexB c = false by unfold hexB digB; simp; omega]
    have dg : decide (48 ≤ c ∧ c ≤ 57) = false := decide_eq_false (by omega)
    have d0 : decide ((97 : Int) ≤ (c : Int)) = true := decide_eq_true (by omega)
    have d1 : decide ((c : Int) ≤ 102) = false := decide_eq_false (by omega)
    have d2 : decide ((65 : Int) ≤ (c : Int)) = true := decide_eq_true (by omega)
    have d3 : decide ((c : Int) ≤ 70) = false := decide_eq_false (by omega)
    go_enter Try.func33, Try.ntmps33
    go_wp2_with (go_at_call 45; refine (isd_any _ _).mono ?_; rintro e w1 ⟨rfl, rfl⟩; rw [dg])
    go_ret
    exact ⟨rfl, rfl⟩

set_option maxHeartbeats 2000000 in
theorem hexval_any (c : Nat) (w : World) (h : hexB c = true) : Calls Try.prog 78 #[.int .u8 c] w fun e w' => e = .returned (.int .u8 (hv c : Nat)) ∧ w = w' := by
  have h' := h
  unfold hexB digB at h
  simp only [Bool.or_eq_true, decide_eq_true_eq] at h
  by_cases hd : 48 ≤ c ∧ c ≤ 57
  · have dg : decide (48 ≤ c ∧ c ≤ 57) = true := decide_eq_true hd
    obtain ⟨q, hq⟩ : ∃ q, c - 48 = q := ⟨_, rfl⟩
    rw [show hv c = q by unfold hv digB; rw [dg, if_pos rfl, hq]]
    have e1 : (c : Int) - 48 = (q : Int) := by omega
    have e2 : IntKind.u8.wrap (q : Int) = (q : Int) := by rw [IntKind.wrap_u8]; omega
    go_enter Try.func78, Try.ntmps78
    go_wp2_with (go_at_call 45; refine (isd_any _ _).mono ?_; rintro e w1 ⟨rfl, rfl⟩; rw [dg])
    go_ret
    exact ⟨rfl, rfl⟩
  · have dg : decide (48 ≤ c ∧ c ≤ 57) = false := decide_eq_false hd
    by_cases h9 : 97 ≤ c
    · have d1 : decide ((97 : Int) ≤ (c : Int)) = true := decide_eq_true (by omega)
      obtain ⟨q, hq⟩ : ∃ q, c - 97 = q := ⟨_, rfl⟩
      obtain ⟨r, hr⟩ : ∃ r, q + 10 = r := ⟨_, rfl⟩
      rw [show hv c = r by unfold hv digB; rw [dg, if_neg (by decide), if_pos h9]; omega]
      have e1 : (c : Int) - 97 = (q : Int) := by omega
      have e2 : IntKind.u8.wrap (q : Int) = (q : Int) := by rw [IntKind.wrap_u8]; omega
      have e3 : (q : Int) + 10 = (r : Int) := by omega
      have e4 : IntKind.u8.wrap (r : Int) = (r : Int) := by rw [IntKind.wrap_u8]; omega
      go_enter Try.func78, Try.ntmps78
      go_wp2_with (go_at_call 45; refine (isd_any _ _).mono ?_; rintro e w1 ⟨rfl, rfl⟩; rw [dg])
      go_ret
      exact ⟨rfl, rfl⟩
    · have d1 : decide ((97 : Int) ≤ (c : Int)) = false := decide_eq_false (by omega)
      obtain ⟨q, hq⟩ : ∃ q, c - 65 = q := ⟨_, rfl⟩
      obtain ⟨r, hr⟩ : ∃ r, q + 10 = r := ⟨_, rfl⟩
      rw [show hv c = r by unfold hv digB; rw [dg, if_neg (by decide), if_neg h9]; omega]
      have e1 : (c : Int) - 65 = (q : Int) := by omega
      have e2 : IntKind.u8.wrap (q : Int) = (q : Int) := by rw [IntKind.wrap_u8]; omega
      have e3 : (q : Int) + 10 = (r : Int) := by omega
      have e4 : IntKind.u8.wrap (r : Int) = (r : Int) := by rw [IntKind.wrap_u8]; omega
      go_enter Try.func78, Try.ntmps78
      go_wp2_with (go_at_call 45; refine (isd_any _ _).mono ?_; rintro e w1 ⟨rfl, rfl⟩; rw [dg])
      go_ret
      exact ⟨rfl, rfl⟩

end Go.Proofs.Ythofhljbipkiaaa.Co
