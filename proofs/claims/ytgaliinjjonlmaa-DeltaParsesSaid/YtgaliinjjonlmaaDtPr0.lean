import Derived.Test.YtgaliinjjonlmaaDtRaw3
namespace Go.Proofs.Ytgaliinjjonlmaa.Dt
open Go.RowKit
open Go.Proofs.Ytgaliinjjonlmaa.Tp
set_option linter.unusedVariables false

/-- Three bytes as a number. -/
def num3 (b : List Nat) (i : Nat) : Nat := b.getD i 0 * 65536 + b.getD (i + 1) 0 * 256 + b.getD (i + 2) 0

/-- The first operation of some bytes by its form alone, and how many bytes it has. -/
def st (b : List Nat) : Option (O × Nat) :=
  if b.length < 4 then none
  else if b.getD 0 0 = 1 then (if b.length < 7 then none else some (⟨num3 b 1, num3 b 4, []⟩, 7))
  else if b.getD 0 0 = 0 then (if b.length < 4 + num3 b 1 then none else some (⟨0, 0, (b.drop 4).take (num3 b 1)⟩, 4 + num3 b 1))
  else none

def good (o : O) : Bool := decide (1 ≤ o.s ∧ o.s ≤ 65536 ∧ o.f ≤ 65536 ∧ o.d.length = 0) || decide (o.s = 0 ∧ o.f = 0 ∧ 1 ≤ o.d.length)
def Good (os : List O) : Prop := os.length ≤ 200 ∧ ∀ o ∈ os, good o = true

/-- Operations read from the front of some bytes, and what is left. -/
inductive Lp : List Nat → List O → List Nat → Prop
  | nil (b : List Nat) : Lp b [] b
  | cons {b : List Nat} {o : O} {k : Nat} {os : List O} {rest : List Nat} (h : st b = some (o, k)) (t : Lp (b.drop k) os rest) : Lp b (o :: os) rest

theorem Lp.snoc {b : List Nat} {qs : List O} {rest : List Nat} {o : O} {k : Nat} (h : Lp b qs rest) (hs : st rest = some (o, k)) : Lp b (qs ++ [o]) (rest.drop k) := by
  induction h with
  | nil b => exact .cons hs (.nil _)
  | cons h t ih => exact .cons h (ih hs)

theorem st_nil : st [] = none := rfl

theorem Lp.split {b : List Nat} {qs : List O} {rest : List Nat} (h : Lp b qs rest) : ∀ os, Lp b os [] → ∃ tl, os = qs ++ tl ∧ Lp rest tl [] := by
  induction h with
  | nil b => exact fun os ho => ⟨os, rfl, ho⟩
  | @cons b o k qs rest h t ih =>
    intro os ho
    cases ho with
    | nil => simp [st_nil] at h
    | @cons _ o2 k2 os2 _ h2 t2 =>
      rw [h] at h2
      cases h2
      obtain ⟨tl, e, ht⟩ := ih os2 t2
      exact ⟨tl, by rw [e]; rfl, ht⟩

theorem Lp.uniq {b : List Nat} {os qs : List O} (h : Lp b os []) (h2 : Lp b qs []) : os = qs := by
  obtain ⟨tl, e, ht⟩ := h.split qs h2
  cases ht with
  | nil => simpa using e.symm
  | cons h _ => simp [st_nil] at h

/-- Where the form fails, or the operation is wrong, or there are too many. -/
theorem Lp.fails {b : List Nat} {qs : List O} {rest : List Nat} (h : Lp b qs rest) (h0 : 0 < rest.length) (hf : st rest = none ∨ (∃ o k, st rest = some (o, k) ∧ good o = false) ∨ 200 ≤ qs.length) : ∀ os, Lp b os [] → ¬ Good os := by
  intro os ho hg
  obtain ⟨tl, e, ht⟩ := h.split os ho
  cases ht with
  | nil => simp at h0
  | @cons _ o k tl2 _ hs t =>
    rcases hf with hf | ⟨o2, k2, hf, hb⟩ | hf
    · rw [hf] at hs
      cases hs
    · rw [hf] at hs
      cases hs
      have := hg.2 o (by rw [e]; simp)
      rw [hb] at this
      cases this
    · have := hg.1
      rw [e] at this
      simp at this
      omega

theorem st_size {b : List Nat} {o : O} {k : Nat} (h : st b = some (o, k)) : 4 ≤ k ∧ k ≤ b.length ∧ o.d.length ≤ b.length := by
  unfold st at h
  split at h
  · cases h
  · split at h
    · split at h
      · cases h
      · cases h
        refine ⟨by omega, by omega, by simp⟩
    · split at h
      · split at h
        · cases h
        · cases h
          refine ⟨by omega, by omega, ?_⟩
          simp
          omega
      · cases h

theorem num_num3 {b : List Nat} {i : Nat} (hb : ∀ x ∈ b, x ≤ 255) : num (num3 b i) = [b.getD i 0, b.getD (i + 1) 0, b.getD (i + 2) 0] := by
  have h := fun j => getD_le hb j
  have h0 := h i
  have h1 := h (i + 1)
  have h2 := h (i + 2)
  unfold num num3
  congr 1
  · omega
  · congr 1
    · omega
    · congr 1
      omega

theorem getD_split {b : List Nat} (h : 0 < b.length) : b = b.getD 0 0 :: b.drop 1 := by
  cases b with
  | nil => simp at h
  | cons x xs => rfl

theorem take4 {b : List Nat} (h : 4 ≤ b.length) : b = [b.getD 0 0, b.getD 1 0, b.getD 2 0, b.getD 3 0] ++ b.drop 4 := by
  match b, h with
  | x0 :: x1 :: x2 :: x3 :: r, _ => rfl

theorem take7 {b : List Nat} (h : 7 ≤ b.length) : b = [b.getD 0 0, b.getD 1 0, b.getD 2 0, b.getD 3 0, b.getD 4 0, b.getD 5 0, b.getD 6 0] ++ b.drop 7 := by
  match b, h with
  | x0 :: x1 :: x2 :: x3 :: x4 :: x5 :: x6 :: r, _ => rfl

/-- A right operation's bytes are those that it was read from. -/
theorem st_bytes {b : List Nat} {o : O} {k : Nat} (h : st b = some (o, k)) (hg : good o = true) (hb : ∀ x ∈ b, x ≤ 255) : b = fmr (raw o) ++ b.drop k := by
  unfold st at h
  split at h
  · cases h
  · split at h
    · split at h
      · cases h
      · rename_i h4 h1 h7
        cases h
        have hs : 1 ≤ num3 b 4 := by
          simp [good] at hg
          omega
        have e : fmr (raw ⟨num3 b 1, num3 b 4, []⟩) = [1] ++ num (num3 b 1) ++ num (num3 b 4) := if_pos (by simp [raw]; omega)
        have ht7 := take7 (b := b) (by omega)
        rw [h1] at ht7
        rw [e, num_num3 hb, num_num3 hb]
        exact ht7
    · split at h
      · split at h
        · cases h
        · rename_i h4 h1 h0 hl
          cases h
          have hl2 : ((b.drop 4).take (num3 b 1)).length = num3 b 1 := by simp; omega
          have e : fmr (raw ⟨0, 0, (b.drop 4).take (num3 b 1)⟩) = [0] ++ num ((b.drop 4).take (num3 b 1)).length ++ (b.drop 4).take (num3 b 1) := if_neg (by simp [raw])
          have ht4 := take4 (b := b) (by omega)
          rw [h0] at ht4
          have h5 : b.drop 4 = (b.drop 4).take (num3 b 1) ++ b.drop (4 + num3 b 1) := by
            rw [← List.drop_drop]
            exact (List.take_append_drop _ _).symm
          rw [e, hl2, num_num3 hb]
          refine ht4.trans ?_
          conv => lhs; rw [h5]
          simp
      · cases h

theorem fmR_eq (rs : List R) : ∀ n, n ≤ rs.length → fmR rs n = (rs.take n).flatMap fmr
  | 0, _ => by simp [fmR]
  | n + 1, h => by
    have ih := fmR_eq rs n (by omega)
    have e : rs.take (n + 1) = rs.take n ++ [rs.getD n r0] := by
      rw [List.take_add_one, List.getD_eq_getElem?_getD, List.getElem?_eq_getElem (by omega)]
      rfl
    simp only [fmR]
    rw [ih, e, List.flatMap_append]
    simp

theorem Lp.bytes {b : List Nat} {os : List O} {rest : List Nat} (h : Lp b os rest) (hb : ∀ x ∈ b, x ≤ 255) (hg : ∀ o ∈ os, good o = true) : b = (os.map raw).flatMap fmr ++ rest := by
  induction h with
  | nil b => simp
  | @cons b o k os rest h t ih =>
    have h1 := st_bytes h (hg o (by simp)) hb
    have h2 := ih (fun x hx => hb x (List.mem_of_mem_drop hx)) (fun o ho => hg o (by simp [ho]))
    rw [List.map_cons, List.flatMap_cons, List.append_assoc, ← h2]
    exact h1

theorem Lp.small {b : List Nat} {os : List O} {rest : List Nat} (h : Lp b os rest) : ∀ o ∈ os, o.d.length ≤ b.length := by
  induction h with
  | nil b => intro o ho; simp at ho
  | @cons b o k os rest h t ih =>
    intro p hp
    rcases List.mem_cons.1 hp with rfl | hp
    · exact (st_size h).2.2
    · have := ih p hp
      simp at this
      omega

theorem Lp.few {b : List Nat} {os : List O} {rest : List Nat} (h : Lp b os rest) : 4 * os.length + rest.length ≤ b.length := by
  induction h with
  | nil b => simp
  | @cons b o k os rest h t ih =>
    have := st_size h
    simp at ih ⊢
    omega

theorem good_num (F S n : Nat) (hd : n ≤ 65536) : (decide (1 ≤ S ∧ S ≤ 65536 ∧ F ≤ 65536 ∧ n = 0) || decide (S = 0 ∧ F = 0 ∧ 1 ≤ n)) = true ↔ larB F S n = false ∧ (!cpyB F S n && !insB F S n) = false := by
  simp only [larB, cpyB, insB, Bool.or_eq_true, decide_eq_true_eq, Bool.or_eq_false_iff, decide_eq_false_iff_not, Bool.and_eq_false_imp, Bool.not_eq_true', Bool.not_eq_false', Bool.and_eq_true]
  constructor
  · rintro (h | h)
    · refine ⟨by omega, fun h1 => ?_⟩
      have h2 := h1 ⟨by omega, by omega⟩
      exact absurd h.2.2.2 h2
    · exact ⟨by omega, fun _ => by omega⟩
  · rintro ⟨h1, h2⟩
    by_cases h3 : 1 ≤ S
    · by_cases h4 : n = 0
      · exact .inl (by omega)
      · have := h2 (fun _ => h4)
        omega
    · have := h2 (fun h => absurd h.1 (by omega))
      exact .inr (by omega)

theorem good_iff {o : O} (hd : o.d.length ≤ 65536) : good o = true ↔ lar (raw o) = false ∧ bad (raw o) = false := good_num o.f o.s o.d.length hd

theorem fmtE_good {b : List Nat} {os : List O} (h : Lp b os []) (hb : b.length ≤ 65536) : fmtE (os.map raw) os.length = 0 ↔ Good os := by
  have hs := h.small
  have hat : ∀ j, j < os.length → (os.map raw).getD j r0 = raw (os.getD j o0) := fun j hj => by simp [List.getD_eq_getElem?_getD, hj]
  constructor
  · intro he
    unfold fmtE at he
    by_cases h1 : 200 < os.length
    · rw [if_pos h1] at he
      omega
    · rw [if_neg h1] at he
      by_cases h2 : anyR lar (os.map raw) os.length = true
      · rw [if_pos h2] at he
        omega
      · rw [if_neg h2] at he
        by_cases h3 : anyR bad (os.map raw) os.length = true
        · rw [if_pos h3] at he
          omega
        · refine ⟨by omega, fun o ho => ?_⟩
          obtain ⟨j, hj, rfl⟩ := List.getElem_of_mem ho
          have e : os.getD j o0 = os[j] := by simp [List.getD_eq_getElem?_getD, hj]
          have a1 := anyR_no (by simpa using h2) j hj
          have a2 := anyR_no (by simpa using h3) j hj
          rw [hat j hj, e] at a1 a2
          exact (good_iff (by have := hs _ ho; omega)).2 ⟨a1, a2⟩
  · rintro ⟨h1, h2⟩
    have each : ∀ j, j < os.length → lar ((os.map raw).getD j r0) = false ∧ bad ((os.map raw).getD j r0) = false := fun j hj => by
      have e : os.getD j o0 = os[j] := by simp [List.getD_eq_getElem?_getD, hj]
      rw [hat j hj, e]
      exact (good_iff (by have := hs _ (List.getElem_mem hj); omega)).1 (h2 _ (List.getElem_mem hj))
    unfold fmtE
    rw [if_neg (by omega), anyR_none (fun j hj => (each j hj).1), anyR_none (fun j hj => (each j hj).2)]
    rfl


end Go.Proofs.Ytgaliinjjonlmaa.Dt
