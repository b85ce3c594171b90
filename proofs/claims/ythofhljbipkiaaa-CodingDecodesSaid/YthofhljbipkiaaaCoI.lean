import Derived.Test.YthofhljbipkiaaaCoH
import Derived.Test.YthofhljbipkiaaaCoD2
namespace Go.Proofs.Ythofhljbipkiaaa.Co
open Go.RowKit
open Go.Proofs.Ythofhljbipkiaaa.Tp
set_option linter.unusedVariables false

theorem sgC_le {d : Nat} (h : d < 200) : sgC d ≤ 255 := by
  unfold sgC
  split
  · omega
  split
  · omega
  split
  · omega
  split <;> omega

theorem flat_le {f : Nat → List Nat} {bs : List Nat} (hb : ∀ b ∈ bs, b ≤ 255) (h : ∀ b, b ≤ 255 → ∀ x ∈ f b, x ≤ 255) : ∀ x ∈ bs.flatMap f, x ≤ 255 := by
  intro x hx
  obtain ⟨b, hbm, hxm⟩ := List.mem_flatMap.1 hx
  exact h b (hb b hbm) x hxm

theorem hexE_le {bs : List Nat} (hb : ∀ b ∈ bs, b ≤ 255) : ∀ x ∈ hexE bs, x ≤ 255 := flat_le hb fun b h x hx => by
  have := loC_le (d := b / 16) (by omega)
  have := loC_le (d := b % 16) (by omega)
  simp at hx
  omega

theorem pctE_le {bs : List Nat} (hb : ∀ b ∈ bs, b ≤ 255) : ∀ x ∈ pctE bs, x ≤ 255 := flat_le hb fun b h x hx => by
  have := hiC_le (d := b / 16) (by omega)
  have := hiC_le (d := b % 16) (by omega)
  unfold pctC at hx
  split at hx <;> simp at hx <;> omega

theorem escE_le {bs : List Nat} (hb : ∀ b ∈ bs, b ≤ 255) : ∀ x ∈ escE bs, x ≤ 255 := flat_le hb fun b h x hx => by
  have := loC_le (d := b / 16) (by omega)
  have := loC_le (d := b % 16) (by omega)
  unfold escC at hx
  split at hx
  · simp at hx; omega
  split at hx
  · simp at hx; omega
  split at hx
  · simp at hx; omega
  split at hx
  · simp at hx; omega
  split at hx
  · simp at hx; omega
  · simp at hx; omega

theorem b64E_le : ∀ {bs : List Nat}, (∀ b ∈ bs, b ≤ 255) → ∀ x ∈ b64E bs, x ≤ 255
  | [], _ => by simp [b64E]
  | [a], h => by
    have ha := h a (by simp)
    have := sgC_le (d := a / 4) (by omega)
    have := sgC_le (d := a % 4 * 16) (by omega)
    intro x hx
    simp [b64E] at hx
    omega
  | [a, b], h => by
    have ha := h a (by simp)
    have hb := h b (by simp)
    have := sgC_le (d := a / 4) (by omega)
    have := sgC_le (d := a % 4 * 16 + b / 16) (by omega)
    have := sgC_le (d := b % 16 * 4) (by omega)
    intro x hx
    simp [b64E] at hx
    omega
  | a :: b :: c :: r, h => by
    have ha := h a (by simp)
    have hb := h b (by simp)
    have hc := h c (by simp)
    have := sgC_le (d := a / 4) (by omega)
    have := sgC_le (d := a % 4 * 16 + b / 16) (by omega)
    have := sgC_le (d := b % 16 * 4 + c / 64) (by omega)
    have := sgC_le (d := c % 64) (by omega)
    have ih := b64E_le (bs := r) (fun x hx => h x (by simp [hx]))
    intro x hx
    simp only [b64E, List.mem_cons] at hx
    rcases hx with rfl | rfl | rfl | rfl | hx
    · assumption
    · assumption
    · assumption
    · assumption
    · exact ih x hx

theorem encL_le {c : Int} {bs : List Nat} (hb : ∀ b ∈ bs, b ≤ 255) : ∀ x ∈ encL c bs, x ≤ 255 := by
  unfold encL
  split
  · exact b64E_le hb
  split
  · exact hexE_le hb
  split
  · exact pctE_le hb
  · exact escE_le hb

theorem ERel.conv {w wr : World} {xs : List Nat} {v : Value} (h : ERel w xs v wr) (hx : ∀ x ∈ xs, x ≤ 255) : (convert 23 9 v).run Try.prog wr = .ok (.string (strB xs)) wr := conv_by (by_own h.1 rfl hx).1

theorem valid_any (c : Int) (w : World) : Calls Try.prog 12 #[.int .i64 c] w fun e w' => e = .returned (.bool (decide (1 ≤ c ∧ c ≤ 4))) ∧ w = w' := by
  by_cases h1 : 1 ≤ c
  · have d1 : decide (1 ≤ c) = true := decide_eq_true h1
    have hv : decide (1 ≤ c ∧ c ≤ 4) = decide (c ≤ 4) := by rw [Bool.eq_iff_iff]; simp; omega
    rw [hv]
    go_enter Try.func12, Try.ntmps12
    go_wp2
    go_ret
    exact ⟨rfl, rfl⟩
  · have d1 : decide (1 ≤ c) = false := decide_eq_false h1
    have hv : decide (1 ≤ c ∧ c ≤ 4) = false := decide_eq_false (by omega)
    rw [hv]
    go_enter Try.func12, Try.ntmps12
    go_wp2
    go_ret
    exact ⟨rfl, rfl⟩

theorem refvalid_any (c : Int) (w : World) : Calls Try.prog 13 #[.int .i64 c] w fun e w' => e = .returned (.bool (decide (1 ≤ c ∧ c ≤ 4))) ∧ w = w' := by
  by_cases h1 : 1 ≤ c
  · have d1 : decide (1 ≤ c) = true := decide_eq_true h1
    have hv : decide (1 ≤ c ∧ c ≤ 4) = decide (c ≤ 4) := by rw [Bool.eq_iff_iff]; simp; omega
    rw [hv]
    go_enter Try.func13, Try.ntmps13
    go_wp2
    go_ret
    exact ⟨rfl, rfl⟩
  · have d1 : decide (1 ≤ c) = false := decide_eq_false h1
    have hv : decide (1 ≤ c ∧ c ≤ 4) = false := decide_eq_false (by omega)
    rw [hv]
    go_enter Try.func13, Try.ntmps13
    go_wp2
    go_ret
    exact ⟨rfl, rfl⟩

/-- What Encode hands back. -/
def encV (c : Int) (bs : List Nat) : Value :=
  if ¬ (1 ≤ c ∧ c ≤ 4) then .tuple #[.string { data := #[] }, .int .i64 1] else if 65536 < bs.length then .tuple #[.string { data := #[] }, .int .i64 3] else .tuple #[.string (strB (encL c bs)), .int .i64 0]

set_option maxRecDepth 100000 in
set_option maxHeartbeats 2000000 in
theorem encode_any (c : Int) (v : Value) (bs : List Nat) (w : World) (h : By w v bs) (hn : bs.length ≤ 1000000) :
    Calls Try.prog 10 #[.int .i64 c, v] w fun e w' => e = .returned (encV c bs) ∧ Below w.heap.size w w' := by
  have HBY := Lib.hid h
  have HLE := Lib.hid h.1
  obtain ⟨D, cp, rfl⟩ := h.form
  clear h
  by_cases hc : 1 ≤ c ∧ c ≤ 4
  · have hd : decide (1 ≤ c ∧ c ≤ 4) = true := decide_eq_true hc
    by_cases hb : 65536 < bs.length
    · have hbi : (65536 : Int) < (bs.length : Int) := by omega
      rw [show encV c bs = .tuple #[.string { data := #[] }, .int .i64 3] by unfold encV; rw [if_neg (by omega), if_pos hb]]
      go_enter Try.func10, Try.ntmps10
      go_wp2_with (go_at_call 12; refine (valid_any _ _).mono ?_; rintro e w1 ⟨rfl, rfl⟩; rw [hd])
      go_ret2
      exact ⟨rfl, Below.refl _ _⟩
    · have hbi : ¬ (65536 : Int) < (bs.length : Int) := by omega
      rw [show encV c bs = .tuple #[.string (strB (encL c bs)), .int .i64 0] by unfold encV; rw [if_neg (by omega), if_neg hb]]
      rcases (by omega : c = 1 ∨ c = 2 ∨ c = 3 ∨ c = 4) with rfl | rfl | rfl | rfl
      · go_enter Try.func10, Try.ntmps10
        go_wp2_with (first
          | (go_at_call 12; refine (valid_any _ _).mono ?_; rintro e w1 ⟨rfl, rfl⟩; rw [hd])
          | (go_at_call 22; refine (tohex_any _ bs _ HBY.out hn).mono ?_; rintro e w1 ⟨v1, rfl, hr⟩; have hcv := hr.conv (hexE_le HLE.out); have HR := Lib.hid hr; clear hr))
        go_ret2
        exact ⟨rfl, HR.out.2⟩
      · go_enter Try.func10, Try.ntmps10
        go_wp2_with (first
          | (go_at_call 12; refine (valid_any _ _).mono ?_; rintro e w1 ⟨rfl, rfl⟩; rw [hd])
          | (go_at_call 23; refine (tob64_any _ bs _ HBY.out hn).mono ?_; rintro e w1 ⟨v1, rfl, hr⟩; have hcv := hr.conv (b64E_le HLE.out); have HR := Lib.hid hr; clear hr))
        go_ret2
        exact ⟨rfl, HR.out.2⟩
      · go_enter Try.func10, Try.ntmps10
        go_wp2_with (first
          | (go_at_call 12; refine (valid_any _ _).mono ?_; rintro e w1 ⟨rfl, rfl⟩; rw [hd])
          | (go_at_call 24; refine (topct_any _ bs _ HBY.out hn).mono ?_; rintro e w1 ⟨v1, rfl, hr⟩; have hcv := hr.conv (pctE_le HLE.out); have HR := Lib.hid hr; clear hr))
        go_ret2
        exact ⟨rfl, HR.out.2⟩
      · go_enter Try.func10, Try.ntmps10
        go_wp2_with (first
          | (go_at_call 12; refine (valid_any _ _).mono ?_; rintro e w1 ⟨rfl, rfl⟩; rw [hd])
          | (go_at_call 25; refine (toesc_any _ bs _ HBY.out hn).mono ?_; rintro e w1 ⟨v1, rfl, hr⟩; have hcv := hr.conv (escE_le HLE.out); have HR := Lib.hid hr; clear hr))
        go_ret2
        exact ⟨rfl, HR.out.2⟩
  · have hd : decide (1 ≤ c ∧ c ≤ 4) = false := decide_eq_false hc
    rw [show encV c bs = .tuple #[.string { data := #[] }, .int .i64 1] by unfold encV; rw [if_pos hc]]
    go_enter Try.func10, Try.ntmps10
    go_wp2_with (go_at_call 12; refine (valid_any _ _).mono ?_; rintro e w1 ⟨rfl, rfl⟩; rw [hd])
    go_ret2
    exact ⟨rfl, Below.refl _ _⟩

end Go.Proofs.Ythofhljbipkiaaa.Co
