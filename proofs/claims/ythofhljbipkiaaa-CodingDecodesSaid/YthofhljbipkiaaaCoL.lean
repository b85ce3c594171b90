import Derived.Test.YthofhljbipkiaaaCoK
namespace Go.Proofs.Ythofhljbipkiaaa.Co
open Go.RowKit
open Go.Proofs.Ythofhljbipkiaaa.Tp
set_option linter.unusedVariables false

/-- A text in which a mark stands ahead of what is written otherwise. -/
def um (m : Nat) (R : List Nat → Option (Nat × Nat)) (l : List Nat) : Option (List Nat) :=
  match l with
  | [] => some []
  | x :: r => if x = m then (match R r with
      | none => none
      | some (c, n) => (um m R (r.drop n)).map (c :: ·)) else (um m R r).map (x :: ·)
termination_by l.length
decreasing_by
  · simp; omega
  · simp

theorem um_nil (m : Nat) (R : List Nat → Option (Nat × Nat)) : um m R [] = some [] := by rw [um]
theorem um_off {m : Nat} {R : List Nat → Option (Nat × Nat)} {x : Nat} {r : List Nat} (h : x ≠ m) : um m R (x :: r) = (um m R r).map (x :: ·) := by rw [um, if_neg h]
theorem um_none {m : Nat} {R : List Nat → Option (Nat × Nat)} {r : List Nat} (h : R r = none) : um m R (m :: r) = none := by rw [um, if_pos rfl, h]
theorem um_some {m : Nat} {R : List Nat → Option (Nat × Nat)} {r : List Nat} {c n : Nat} (h : R r = some (c, n)) : um m R (m :: r) = (um m R (r.drop n)).map (c :: ·) := by rw [um, if_pos rfl, h]

def pR (l : List Nat) : Option (Nat × Nat) := (hxP l).map fun c => (c, 2)

def eR : List Nat → Option (Nat × Nat)
  | [] => none
  | x :: r => if x = 110 then some (10, 1) else if x = 114 then some (13, 1) else if x = 116 then some (9, 1) else if x = 92 then some (92, 1) else if x = 120 then (hxP r).map fun c => (c, 3) else none

theorem hxP_le {l : List Nat} {c : Nat} (h : hxP l = some c) : c ≤ 255 ∧ 2 ≤ l.length := by
  match l, h with
  | a :: b :: r, h =>
    simp only [hxP] at h
    split at h
    · rename_i hh
      rw [Bool.and_eq_true] at hh
      have := hv_lt hh.1
      have := hv_lt hh.2
      cases h
      refine ⟨by omega, by simp⟩
    · cases h

theorem pR_le {l : List Nat} {c n : Nat} (h : pR l = some (c, n)) : c ≤ 255 ∧ n ≤ 3 ∧ n ≤ l.length := by
  unfold pR at h
  cases hh : hxP l with
  | none => rw [hh] at h; cases h
  | some d =>
    rw [hh] at h
    have := hxP_le hh
    cases h
    omega

theorem eR_le {l : List Nat} {c n : Nat} (h : eR l = some (c, n)) : c ≤ 255 ∧ n ≤ 3 ∧ n ≤ l.length := by
  match l, h with
  | x :: r, h =>
    simp only [eR] at h
    split at h
    · cases h; simp
    split at h
    · cases h; simp
    split at h
    · cases h; simp
    split at h
    · cases h; simp
    split at h
    · cases hh : hxP r with
      | none => rw [hh] at h; cases h
      | some d =>
        rw [hh] at h
        have := hxP_le hh
        cases h
        simp
        omega
    · cases h

theorem empty_eq {s : ByteArray} (h : s.size = 0) : s = { data := #[] } := by
  obtain ⟨⟨l⟩⟩ := s
  have : l.length = 0 := h
  rw [List.length_eq_zero_iff.1 this]

theorem ne_empty2 {s : ByteArray} (h : 1 ≤ s.size) : ¬ s.toList = [] := by
  intro e
  rw [byteArray_data] at e
  have : s.size = s.data.toList.length := by rw [Array.length_toList]; rfl
  rw [e] at this
  have h0 : s.size = 0 := this
  omega

theorem ne_empty3 {s : ByteArray} (h : 1 ≤ s.size) : s.toList.isEmpty = false := by
  have := ne_empty2 h
  simpa using this


/-- What a reader hands back. -/
def RdPost (R : List Nat → Option (Nat × Nat)) (s : ByteArray) (w : World) (e : Ending) (w' : World) : Prop :=
  (∃ (c n : Nat) (b : Bool), e = .returned (.tuple #[.int .u8 (c : Int), .int .i64 (n : Int), .bool b]) ∧ ((b = true ∧ R (nums s) = some (c, n)) ∨ (b = false ∧ R (nums s) = none))) ∧ Below w.heap.size w w'

set_option maxHeartbeats 1000000 in
theorem pctbyte_any (s : ByteArray) (w : World) : Calls Try.prog 49 #[.string s] w (RdPost pR s w) := by
  cases hh : hxP (nums s) with
  | none =>
    go_enter Try.func49, Try.ntmps49
    go_wp2_with (go_at_call 64; refine (hexbyte_any _ _).mono ?_; rintro e w1 ⟨rfl, hb⟩; rw [hh]; show _; dsimp only [hxV]; have HB := Lib.hid hb; clear hb)
    go_ret3
    exact ⟨⟨0, 2, false, rfl, .inr ⟨rfl, by unfold pR; rw [hh]; rfl⟩⟩, HB.out⟩
  | some c =>
    go_enter Try.func49, Try.ntmps49
    go_wp2_with (go_at_call 64; refine (hexbyte_any _ _).mono ?_; rintro e w1 ⟨rfl, hb⟩; rw [hh]; show _; dsimp only [hxV]; have HB := Lib.hid hb; clear hb)
    go_ret3
    exact ⟨⟨c, 2, true, rfl, .inl ⟨rfl, by unfold pR; rw [hh]; rfl⟩⟩, HB.out⟩

set_option maxRecDepth 100000 in
set_option maxHeartbeats 2000000 in
theorem escbyte_any (s : ByteArray) (w : World) : Calls Try.prog 50 #[.string s] w (RdPost eR s w) := by
  have hl := nums_length s
  by_cases h0 : s.size = 0
  · have hn : nums s = [] := List.eq_nil_of_length_eq_zero (by omega)
    have hs := empty_eq h0
    subst hs
    go_enter Try.func50, Try.ntmps50
    go_wp2
    go_ret3
    exact ⟨⟨0, 0, false, rfl, .inr ⟨rfl, by rw [hn]; rfl⟩⟩, Below.refl _ _⟩
  · have hne := ne_empty2 (s := s) (by omega)
    have hne2 := ne_empty3 (s := s) (by omega)
    have h0i : (0 : Int) < (s.size : Int) := by omega
    have h0n : 0 < s.size := by omega
    have h1i : (1 : Int) ≤ (s.size : Int) := by omega
    have h1n : 1 ≤ s.size := by omega
    have n0 := nb_at s 0 (by omega)
    have hcons : nums s = nb s 0 :: nums (s.extract 1 s.size) := by
      rw [nums_drop]
      unfold nb
      generalize nums s = l at *
      match l, hl with
      | [], hl => simp at hl; omega
      | a :: r, _ => rfl
    have HC := Lib.hid hcons
    clear hcons hl
    generalize nb s 0 = x at *
    by_cases c1 : x = 110
    · subst c1
      go_enter Try.func50, Try.ntmps50
      go_wp2
      go_ret3
      exact ⟨⟨10, 1, true, rfl, .inl ⟨rfl, by rw [HC.out]; rfl⟩⟩, Below.refl _ _⟩
    by_cases c2 : x = 114
    · subst c2
      go_enter Try.func50, Try.ntmps50
      go_wp2
      go_ret3
      exact ⟨⟨13, 1, true, rfl, .inl ⟨rfl, by rw [HC.out]; rfl⟩⟩, Below.refl _ _⟩
    by_cases c3 : x = 116
    · subst c3
      go_enter Try.func50, Try.ntmps50
      go_wp2
      go_ret3
      exact ⟨⟨9, 1, true, rfl, .inl ⟨rfl, by rw [HC.out]; rfl⟩⟩, Below.refl _ _⟩
    by_cases c4 : x = 92
    · subst c4
      go_enter Try.func50, Try.ntmps50
      go_wp2
      go_ret3
      exact ⟨⟨92, 1, true, rfl, .inl ⟨rfl, by rw [HC.out]; rfl⟩⟩, Below.refl _ _⟩
    by_cases c5 : x = 120
    · subst c5
      cases hh : hxP (nums (s.extract 1 s.size)) with
      | none =>
        go_enter Try.func50, Try.ntmps50
        go_wp2_with (go_at_call 64; refine (hexbyte_any _ _).mono ?_; rintro e w1 ⟨rfl, hb⟩; rw [hh]; dsimp only [hxV]; have HB := Lib.hid hb; clear hb)
        go_ret3
        exact ⟨⟨0, 3, false, rfl, .inr ⟨rfl, by rw [HC.out]; simp [eR, hh]⟩⟩, HB.out⟩
      | some c =>
        go_enter Try.func50, Try.ntmps50
        go_wp2_with (go_at_call 64; refine (hexbyte_any _ _).mono ?_; rintro e w1 ⟨rfl, hb⟩; rw [hh]; dsimp only [hxV]; have HB := Lib.hid hb; clear hb)
        go_ret3
        exact ⟨⟨c, 3, true, rfl, .inl ⟨rfl, by rw [HC.out]; simp [eR, hh]⟩⟩, HB.out⟩
    · have q1 : ((x : Int) == 110) = false := beq_eq_false_iff_ne.2 (by omega)
      have q2 : ((x : Int) == 114) = false := beq_eq_false_iff_ne.2 (by omega)
      have q3 : ((x : Int) == 116) = false := beq_eq_false_iff_ne.2 (by omega)
      have q4 : ((x : Int) == 92) = false := beq_eq_false_iff_ne.2 (by omega)
      have q5 : ((x : Int) == 120) = false := beq_eq_false_iff_ne.2 (by omega)
      go_enter Try.func50, Try.ntmps50
      go_wp2
      go_ret3
      exact ⟨⟨0, 0, false, rfl, .inr ⟨rfl, by rw [HC.out]; simp [eR, c1, c2, c3, c4, c5]⟩⟩, Below.refl _ _⟩

end Go.Proofs.Ythofhljbipkiaaa.Co
