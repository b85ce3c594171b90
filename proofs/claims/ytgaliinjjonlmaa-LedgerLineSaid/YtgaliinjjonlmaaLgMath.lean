import Derived.WalkKit
namespace Go.Proofs.Ytgaliinjjonlmaa.Lg
set_option linter.unusedVariables false

/-- A record of a ledger. -/
structure R where
  k : Nat
  s : Nat
  u : Nat
  v : Int
deriving DecidableEq

def r0 : R := ⟨0, 0, 0, 0⟩

/-- The number of the record that says something, among the first n; -1: none. -/
def sd (l : List R) (k u t : Nat) : Nat → Int
  | 0 => -1
  | n + 1 => if (l.getD n r0).k ≤ k ∧ (l.getD n r0).u = u ∧ (l.getD n r0).s ≤ t ∧ (sd l k u t n = -1 ∨ (l.getD (sd l k u t n).toNat r0).s ≤ (l.getD n r0).s) then (n : Int) else sd l k u t n

theorem sd_bd (l : List R) (k u t n : Nat) : -1 ≤ sd l k u t n ∧ sd l k u t n < n := by
  induction n with
  | zero => simp [sd]
  | succ n ih => simp only [sd]; split <;> omega

theorem sd_hit (l : List R) (k u t n : Nat) : sd l k u t n = -1 ∨ ((l.getD (sd l k u t n).toNat r0).k ≤ k ∧ (l.getD (sd l k u t n).toNat r0).u = u ∧ (l.getD (sd l k u t n).toNat r0).s ≤ t) := by
  induction n with
  | zero => exact .inl rfl
  | succ n ih =>
    simp only [sd]
    split
    · rename_i h
      exact .inr (by simpa using ⟨h.1, h.2.1, h.2.2.1⟩)
    · exact ih

theorem sd_congr {l m : List R} {k u t : Nat} : ∀ n, (∀ i, i < n → l.getD i r0 = m.getD i r0) → sd l k u t n = sd m k u t n
  | 0, _ => rfl
  | n + 1, h => by
    have ih := sd_congr (l := l) (m := m) (k := k) (u := u) (t := t) n (fun i hi => h i (by omega))
    have hb := sd_bd l k u t n
    simp only [sd]
    rw [← ih, h n (by omega)]
    by_cases h1 : sd l k u t n = -1
    · simp [h1]
    · rw [h (sd l k u t n).toNat (by omega)]

theorem getD_snoc (l : List R) (r : R) (i : Nat) (h : i < l.length) : (l ++ [r]).getD i r0 = l.getD i r0 := by
  rw [List.getD_eq_getElem?_getD, List.getD_eq_getElem?_getD, List.getElem?_append_left h]
theorem getD_last (l : List R) (r : R) : (l ++ [r]).getD l.length r0 = r := by
  rw [List.getD_eq_getElem?_getD, List.getElem?_append_right (Nat.le_refl _)]
  simp

theorem sd_snoc (l : List R) (r : R) (k u t : Nat) : sd (l ++ [r]) k u t l.length = sd l k u t l.length := sd_congr _ (fun i hi => getD_snoc l r i hi)

/-- A record that is known later says nothing yet. -/
theorem sd_later (l : List R) (r : R) (k u t : Nat) (h : k < r.k) : sd (l ++ [r]) k u t (l.length + 1) = sd l k u t l.length := by
  simp only [sd]
  rw [getD_last, sd_snoc, if_neg (by omega)]

/-- A record that is the last one known says something for its own time. -/
theorem sd_now (l : List R) (r : R) : sd (l ++ [r]) r.k r.u r.s (l.length + 1) = l.length := by
  have hb := sd_bd l r.k r.u r.s l.length
  simp only [sd]
  rw [getD_last, sd_snoc]
  refine if_pos ⟨Nat.le_refl _, rfl, Nat.le_refl _, ?_⟩
  rcases sd_hit l r.k r.u r.s l.length with h | ⟨_, _, h⟩
  · exact .inl h
  · by_cases h1 : sd l r.k r.u r.s l.length = -1
    · exact .inl h1
    · rw [getD_snoc _ _ _ (by omega)]
      exact .inr h

/-- What is believed: the value, the record, whether anything is. -/
def bv (l : List R) (x : Int) : Int := if x = -1 then 0 else (l.getD x.toNat r0).v

def notMore (b : Option R) (r : R) : Bool := match b with | none => true | some b => decide (b.s ≤ r.s)
def fit (k u t : Nat) (b : Option R) (r : R) : Option R := if r.k ≤ k ∧ r.u = u ∧ r.s ≤ t ∧ notMore b r = true then some r else b

def best (l : List R) (k u t : Nat) : Option R := l.foldl (fit k u t) none

theorem best_filter (k u t : Nat) : ∀ (l : List R) (b : Option R), (l.filter (fun r => decide (r.u = u))).foldl (fit k u t) b = l.foldl (fit k u t) b
  | [], _ => rfl
  | r :: l, b => by
    by_cases h : r.u = u
    · simp only [List.filter, h, decide_true, List.foldl]
      exact best_filter k u t l _
    · have e : fit k u t b r = b := by
        unfold fit
        rw [if_neg (fun hh => h hh.2.1)]
      simp only [List.filter, h, decide_false, List.foldl, e]
      exact best_filter k u t l _

theorem take_snoc (l : List R) (n : Nat) (h : n < l.length) : l.take (n + 1) = l.take n ++ [l.getD n r0] := by
  rw [List.take_add_one, List.getD_eq_getElem?_getD, List.getElem?_eq_getElem h]
  rfl

def ob (l : List R) (x : Int) : Option R := if x = -1 then none else some (l.getD x.toNat r0)

theorem sd_best (l : List R) (k u t : Nat) : ∀ n, n ≤ l.length → best (l.take n) k u t = ob l (sd l k u t n)
  | 0, _ => rfl
  | n + 1, h => by
    have ih := sd_best l k u t n (by omega)
    have hb := sd_bd l k u t n
    unfold best at ih ⊢
    rw [take_snoc l n (by omega), List.foldl_append, ih]
    have hn : ob l (n : Int) = some (l.getD n r0) := by
      unfold ob
      rw [if_neg (by omega)]
      simp
    simp only [List.foldl]
    by_cases h1 : sd l k u t n = -1
    · have e0 : ob l (sd l k u t n) = none := if_pos h1
      by_cases h2 : (l.getD n r0).k ≤ k ∧ (l.getD n r0).u = u ∧ (l.getD n r0).s ≤ t
      · have e : sd l k u t (n + 1) = (n : Int) := if_pos ⟨h2.1, h2.2.1, h2.2.2, .inl h1⟩
        rw [e, hn, e0]
        exact if_pos ⟨h2.1, h2.2.1, h2.2.2, rfl⟩
      · have e : sd l k u t (n + 1) = sd l k u t n := if_neg (fun hh => h2 ⟨hh.1, hh.2.1, hh.2.2.1⟩)
        rw [e]
        exact if_neg (fun hh => h2 ⟨hh.1, hh.2.1, hh.2.2.1⟩)
    · have e0 : ob l (sd l k u t n) = some (l.getD (sd l k u t n).toNat r0) := if_neg h1
      by_cases h2 : (l.getD n r0).k ≤ k ∧ (l.getD n r0).u = u ∧ (l.getD n r0).s ≤ t ∧ (l.getD (sd l k u t n).toNat r0).s ≤ (l.getD n r0).s
      · have e : sd l k u t (n + 1) = (n : Int) := if_pos ⟨h2.1, h2.2.1, h2.2.2.1, .inr h2.2.2.2⟩
        rw [e, hn, e0]
        exact if_pos ⟨h2.1, h2.2.1, h2.2.2.1, by simpa [notMore] using h2.2.2.2⟩
      · have e : sd l k u t (n + 1) = sd l k u t n := if_neg (fun hh => h2 ⟨hh.1, hh.2.1, hh.2.2.1, hh.2.2.2.resolve_left h1⟩)
        rw [e, e0]
        exact if_neg (fun hh => h2 ⟨hh.1, hh.2.1, hh.2.2.1, by simpa [notMore] using hh.2.2.2⟩)

theorem sd_best_all (l : List R) (k u t : Nat) : best l k u t = ob l (sd l k u t l.length) := by
  have := sd_best l k u t l.length (Nat.le_refl _)
  rwa [List.take_length] at this

theorem bv_best (l : List R) (k u t : Nat) : bv l (sd l k u t l.length) = ((best l k u t).map (·.v)).getD 0 := by
  rw [sd_best_all]
  unfold bv ob
  split <;> rfl

theorem ob_none (l : List R) (x : Int) : ob l x = none ↔ x = -1 := by
  unfold ob
  split <;> simp_all

/-- What is believed of a subject does not depend on others' records. -/
theorem apart (l : List R) (k u t : Nat) : let m := l.filter (fun r => decide (r.u = u)); (sd l k u t l.length = -1 ↔ sd m k u t m.length = -1) ∧ bv l (sd l k u t l.length) = bv m (sd m k u t m.length) := by
  intro m
  have e : best m k u t = best l k u t := best_filter k u t l none
  exact ⟨by rw [← ob_none l, ← ob_none m, ← sd_best_all, ← sd_best_all, e], by rw [bv_best, bv_best, e]⟩

/-- A ledger that is valid: few records, in bounds, ascending by when they are known. -/
structure Ok (l : List R) : Prop where
  few : l.length ≤ 100
  bd : ∀ i, i < l.length → (l.getD i r0).k ≤ 1000000 ∧ (l.getD i r0).s ≤ 1000000 ∧ (l.getD i r0).u < 16 ∧ -1000000 ≤ (l.getD i r0).v ∧ (l.getD i r0).v ≤ 1000000
  up : ∀ i, i + 1 < l.length → (l.getD i r0).k ≤ (l.getD (i + 1) r0).k

theorem Ok.snoc {l : List R} (h : Ok l) (r : R) (hn : l.length < 100) (hb : r.k ≤ 1000000 ∧ r.s ≤ 1000000 ∧ r.u < 16 ∧ -1000000 ≤ r.v ∧ r.v ≤ 1000000) (hu : 0 < l.length → (l.getD (l.length - 1) r0).k ≤ r.k) : Ok (l ++ [r]) := by
  refine ⟨by simp; omega, fun i hi => ?_, fun i hi => ?_⟩
  · simp at hi
    by_cases hl : i < l.length
    · rw [getD_snoc _ _ _ hl]
      exact h.bd i hl
    · obtain rfl : i = l.length := by omega
      rw [getD_last]
      exact hb
  · simp at hi
    rw [getD_snoc _ _ i hi]
    by_cases hl : i + 1 < l.length
    · rw [getD_snoc _ _ _ hl]
      exact h.up i hl
    · obtain e : i + 1 = l.length := by omega
      rw [e, getD_last]
      have := hu (by omega)
      rwa [← e, Nat.add_sub_cancel] at this

/-! ### The best of a ledger, and how it grows -/

def cand (l : List R) (k u t i : Nat) : Prop := (l.getD i r0).k ≤ k ∧ (l.getD i r0).u = u ∧ (l.getD i r0).s ≤ t

theorem sd_max (l : List R) (k u t : Nat) : ∀ n i, i < n → cand l k u t i → sd l k u t n ≠ -1 ∧ ((l.getD i r0).s < (l.getD (sd l k u t n).toNat r0).s ∨ ((l.getD i r0).s = (l.getD (sd l k u t n).toNat r0).s ∧ (i : Int) ≤ sd l k u t n))
  | 0, i, h, _ => absurd h (by omega)
  | n + 1, i, h, hc => by
    have hb := sd_bd l k u t n
    by_cases hin : i < n
    · obtain ⟨h1, h2⟩ := sd_max l k u t n i hin hc
      by_cases hs : (l.getD n r0).k ≤ k ∧ (l.getD n r0).u = u ∧ (l.getD n r0).s ≤ t ∧ (sd l k u t n = -1 ∨ (l.getD (sd l k u t n).toNat r0).s ≤ (l.getD n r0).s)
      · have e : sd l k u t (n + 1) = (n : Int) := if_pos hs
        rw [e]
        refine ⟨by omega, ?_⟩
        have h3 := hs.2.2.2.resolve_left h1
        simp only [Int.toNat_natCast]
        rcases h2 with h2 | ⟨h2, h4⟩
        · exact .inl (by omega)
        · omega
      · have e : sd l k u t (n + 1) = sd l k u t n := if_neg hs
        rw [e]
        exact ⟨h1, h2⟩
    · obtain rfl : i = n := by omega
      by_cases hs : sd l k u t i = -1 ∨ (l.getD (sd l k u t i).toNat r0).s ≤ (l.getD i r0).s
      · have e : sd l k u t (i + 1) = (i : Int) := if_pos ⟨hc.1, hc.2.1, hc.2.2, hs⟩
        rw [e]
        exact ⟨by omega, .inr ⟨by simp, by omega⟩⟩
      · have e : sd l k u t (i + 1) = sd l k u t i := if_neg (fun hh => hs hh.2.2.2)
        rw [e]
        refine ⟨fun h => hs (.inl h), .inl ?_⟩
        have := fun h => hs (.inr h)
        omega

theorem sd_cand (l : List R) (k u t n : Nat) (h : sd l k u t n ≠ -1) : cand l k u t (sd l k u t n).toNat := (sd_hit l k u t n).resolve_left h

/-- The best is the one candidate that no candidate beats. -/
theorem sd_uniq (l : List R) (k u t n x : Nat) (hx : x < n) (hc : cand l k u t x) (hm : ∀ i, i < n → cand l k u t i → (l.getD i r0).s < (l.getD x r0).s ∨ ((l.getD i r0).s = (l.getD x r0).s ∧ i ≤ x)) : sd l k u t n = x := by
  obtain ⟨h1, h2⟩ := sd_max l k u t n x hx hc
  have hb := sd_bd l k u t n
  have h3 := hm (sd l k u t n).toNat (by omega) (sd_cand l k u t n h1)
  omega

theorem sd_mono (l : List R) (k u t : Nat) : ∀ n, sd l k u t n ≤ sd l k u t (n + 1) := by
  intro n
  have hb := sd_bd l k u t n
  simp only [sd]
  split <;> omega

/-! ### What is said of a time, as k goes up -/

theorem up_le {l : List R} (h : Ok l) : ∀ j i, i ≤ j → j < l.length → (l.getD i r0).k ≤ (l.getD j r0).k
  | 0, i, h1, _ => by
    obtain rfl : i = 0 := by omega
    exact Nat.le_refl _
  | j + 1, i, h1, h2 => by
    by_cases e : i = j + 1
    · rw [e]
      exact Nat.le_refl _
    · exact Nat.le_trans (up_le h j i (by omega) (by omega)) (h.up j h2)

/-- A later k's best, if it is known at k already, is k's best. -/
theorem F_back {l : List R} {k k' u t x : Nat} (hk : k ≤ k') (h : sd l k' u t l.length = x) (hx : (l.getD x r0).k ≤ k) : sd l k u t l.length = x := by
  have hb := sd_bd l k' u t l.length
  have hc := sd_cand l k' u t l.length (by omega)
  rw [h] at hc
  simp only [Int.toNat_natCast] at hc
  refine sd_uniq l k u t l.length x (by omega) ⟨hx, hc.2.1, hc.2.2⟩ (fun i hi hci => ?_)
  have := (sd_max l k' u t l.length i hi ⟨by have := hci.1; omega, hci.2.1, hci.2.2⟩).2
  rw [h] at this
  simpa using this

/-- What is said later is said by a record that stands behind. -/
theorem F_up {l : List R} {k k' u t : Nat} (hok : Ok l) (hk : k ≤ k') : sd l k u t l.length ≤ sd l k' u t l.length := by
  by_cases h1 : sd l k u t l.length = -1
  · have := sd_bd l k' u t l.length
    omega
  · have hc := sd_cand l k u t l.length h1
    have hb := sd_bd l k u t l.length
    obtain ⟨h2, h3⟩ := sd_max l k' u t l.length (sd l k u t l.length).toNat (by omega) ⟨by have := hc.1; omega, hc.2.1, hc.2.2⟩
    have hb' := sd_bd l k' u t l.length
    by_cases hle : sd l k u t l.length ≤ sd l k' u t l.length
    · exact hle
    · obtain ⟨x, hx⟩ : ∃ x : Nat, sd l k' u t l.length = x := ⟨(sd l k' u t l.length).toNat, by omega⟩
      have hck := sd_cand l k' u t l.length h2
      rw [hx] at hck
      simp only [Int.toNat_natCast] at hck
      have hkx : (l.getD x r0).k ≤ k := Nat.le_trans (up_le hok (sd l k u t l.length).toNat x (by omega) (by omega)) hc.1
      have := F_back hk hx hkx
      omega

/-- The records that the changes tell, among the first n. -/
def ch (l : List R) (u t : Nat) : Nat → List Nat
  | 0 => []
  | n + 1 => if sd l (l.getD n r0).k u t l.length = -1 then ch l u t n else if (ch l u t n).getLast? = some (sd l (l.getD n r0).k u t l.length).toNat then ch l u t n else ch l u t n ++ [(sd l (l.getD n r0).k u t l.length).toNat]

/-- What was said last, before record n. -/
def lst (l : List R) (u t : Nat) : Nat → Int
  | 0 => -1
  | n + 1 => sd l (l.getD n r0).k u t l.length

theorem ch_last (l : List R) (u t : Nat) (hok : Ok l) : ∀ n, n ≤ l.length → (lst l u t n = -1 ∧ ch l u t n = []) ∨ (lst l u t n ≠ -1 ∧ (ch l u t n).getLast? = some (lst l u t n).toNat)
  | 0, _ => .inl ⟨rfl, rfl⟩
  | n + 1, hn => by
    have ih := ch_last l u t hok n (by omega)
    show (sd l (l.getD n r0).k u t l.length = -1 ∧ _) ∨ (sd l (l.getD n r0).k u t l.length ≠ -1 ∧ _)
    by_cases h1 : sd l (l.getD n r0).k u t l.length = -1
    · left
      refine ⟨h1, ?_⟩
      simp only [ch]
      rw [if_pos h1]
      rcases ih with ⟨_, h⟩ | ⟨h, _⟩
      · exact h
      · exfalso
        cases n with
        | zero => exact h rfl
        | succ n =>
          have := F_up (k := (l.getD n r0).k) (k' := (l.getD (n + 1) r0).k) (u := u) (t := t) hok (hok.up n (by omega))
          have hb := sd_bd l (l.getD n r0).k u t l.length
          exact h (by show sd l (l.getD n r0).k u t l.length = -1; omega)
    · right
      refine ⟨h1, ?_⟩
      simp only [ch]
      rw [if_neg h1]
      split
      · assumption
      · simp [lst]

theorem ch_step (l : List R) (u t n : Nat) (hok : Ok l) (hn : n < l.length) : ch l u t (n + 1) = if sd l (l.getD n r0).k u t l.length = lst l u t n then ch l u t n else ch l u t n ++ [(sd l (l.getD n r0).k u t l.length).toNat] := by
  have h := ch_last l u t hok n (by omega)
  have hb := sd_bd l (l.getD n r0).k u t l.length
  have hmono : lst l u t n ≤ sd l (l.getD n r0).k u t l.length := by
    cases n with
    | zero => exact hb.1
    | succ n => exact F_up hok (hok.up n hn)
  simp only [ch]
  by_cases h1 : sd l (l.getD n r0).k u t l.length = -1
  · rw [if_pos h1]
    have : lst l u t n = -1 := by
      rcases h with ⟨h, _⟩ | ⟨h, _⟩
      · exact h
      · have : -1 ≤ lst l u t n := by
          cases n with
          | zero => simp [lst]
          | succ n => exact (sd_bd _ _ _ _ _).1
        omega
    rw [if_pos (by omega)]
  · rw [if_neg h1]
    rcases h with ⟨h, e⟩ | ⟨h, e⟩
    · rw [if_neg (by rw [e]; simp), if_neg (by omega)]
    · have hl : -1 ≤ lst l u t n := by
        cases n with
        | zero => simp [lst]
        | succ n => exact (sd_bd _ _ _ _ _).1
      rw [e]
      by_cases h2 : sd l (l.getD n r0).k u t l.length = lst l u t n
      · rw [if_pos (by rw [h2]), if_pos h2]
      · rw [if_neg (fun he => by have := Option.some.inj he; omega), if_neg h2]

theorem lst_lt (l : List R) (u t n : Nat) : lst l u t n < l.length ∨ lst l u t n = -1 := by
  cases n with
  | zero => exact .inr rfl
  | succ n => exact .inl (sd_bd _ _ _ _ _).2

/-- The changes go up, and stay below what is said last. -/
theorem ch_up (l : List R) (u t : Nat) (hok : Ok l) : ∀ n, n ≤ l.length → (∀ x : Nat, x ∈ ch l u t n → (x : Int) ≤ lst l u t n) ∧ (ch l u t n).Pairwise (· < ·)
  | 0, _ => ⟨by simp [ch], by simp [ch]⟩
  | n + 1, hn => by
    obtain ⟨h1, h2⟩ := ch_up l u t hok n (by omega)
    have hb := sd_bd l (l.getD n r0).k u t l.length
    have hmono : lst l u t n ≤ sd l (l.getD n r0).k u t l.length := by
      cases n with
      | zero => exact hb.1
      | succ n => exact F_up hok (hok.up n hn)
    rw [ch_step l u t n hok hn]
    show (∀ x : Nat, x ∈ _ → (x : Int) ≤ sd l (l.getD n r0).k u t l.length) ∧ _
    have hl : -1 ≤ lst l u t n := by
      cases n with
      | zero => simp [lst]
      | succ n => exact (sd_bd _ _ _ _ _).1
    by_cases hne : sd l (l.getD n r0).k u t l.length = lst l u t n
    · rw [if_pos hne]
      exact ⟨fun x hx => by have := h1 x hx; omega, h2⟩
    · rw [if_neg hne]
      refine ⟨fun x hx => ?_, ?_⟩
      · rcases List.mem_append.1 hx with hx | hx
        · have := h1 x hx
          omega
        · have hx := List.mem_singleton.1 hx
          omega
      · refine List.pairwise_append.2 ⟨h2, List.pairwise_singleton _ _, fun a ha b hb' => ?_⟩
        have hb' := List.mem_singleton.1 hb'
        have := h1 a ha
        omega

theorem ch_mem_keep (l : List R) (u t : Nat) : ∀ m n, n ≤ m → ∀ x : Nat, x ∈ ch l u t n → x ∈ ch l u t m
  | 0, n, h, x, hx => by
    obtain rfl : n = 0 := by omega
    exact hx
  | m + 1, n, h, x, hx => by
    by_cases e : n = m + 1
    · rw [← e]
      exact hx
    · have := ch_mem_keep l u t m n (by omega) x hx
      simp only [ch]
      split
      · exact this
      · split
        · exact this
        · exact List.mem_append.2 (.inl this)

/-- Whatever is said at some k is among the changes. -/
theorem ch_all (l : List R) (k u t x : Nat) (hok : Ok l) (h : sd l k u t l.length = x) : x ∈ ch l u t l.length := by
  have hb := sd_bd l k u t l.length
  have hc := sd_cand l k u t l.length (by omega)
  rw [h] at hc
  simp only [Int.toNat_natCast] at hc
  have h1 : sd l (l.getD x r0).k u t l.length = x := F_back hc.1 h (Nat.le_refl _)
  have h2 := ch_last l u t hok (x + 1) (by omega)
  have h3 : lst l u t (x + 1) = x := h1
  rw [h3] at h2
  rcases h2 with ⟨h2, _⟩ | ⟨_, h2⟩
  · omega
  · have : x ∈ ch l u t (x + 1) := List.mem_of_getLast? (by simpa using h2)
    exact ch_mem_keep l u t l.length (x + 1) (by omega) x this

/-- Whatever is among the changes is said, and first when its record becomes known. -/
theorem ch_said (l : List R) (u t : Nat) (hok : Ok l) : ∀ n, n ≤ l.length → ∀ x ∈ ch l u t n, x < l.length ∧ sd l (l.getD x r0).k u t l.length = x
  | 0, _, x, hx => by simp [ch] at hx
  | n + 1, hn, x, hx => by
    have ih := ch_said l u t hok n (by omega)
    rw [ch_step l u t n hok hn] at hx
    by_cases hne : sd l (l.getD n r0).k u t l.length = lst l u t n
    · rw [if_pos hne] at hx
      exact ih x hx
    · rw [if_neg hne] at hx
      rcases List.mem_append.1 hx with hx | hx
      · exact ih x hx
      · have hx := List.mem_singleton.1 hx
        have hb := sd_bd l (l.getD n r0).k u t l.length
        by_cases h1 : sd l (l.getD n r0).k u t l.length = -1
        · exfalso
          have h2 := ch_last l u t hok n (by omega)
          have hl : lst l u t n ≤ sd l (l.getD n r0).k u t l.length := by
            cases n with
            | zero => exact hb.1
            | succ n => exact F_up hok (hok.up n hn)
          have hl2 : -1 ≤ lst l u t n := by
            cases n with
            | zero => simp [lst]
            | succ n => exact (sd_bd _ _ _ _ _).1
          omega
        · have hcx := sd_cand l (l.getD n r0).k u t l.length h1
          have e : sd l (l.getD n r0).k u t l.length = x := by omega
          rw [e] at hcx
          simp only [Int.toNat_natCast] at hcx
          exact ⟨by omega, F_back hcx.1 e (Nat.le_refl _)⟩

theorem getD_of (xs : List Nat) (j y : Nat) (hj : j < xs.length) (e : xs[j] = y) : xs.getD j 0 = y := by
  rw [List.getD_eq_getElem?_getD, List.getElem?_eq_getElem hj]
  exact e

/-- Learned: the first k at which a value is said is when the first change that tells it becomes known. -/
theorem learned_some (l : List R) (u t : Nat) (v : Int) (hok : Ok l) (i : Nat) (hi : i < (ch l u t l.length).length) (hv : (l.getD ((ch l u t l.length).getD i 0) r0).v = v) (hno : ∀ j, j < i → (l.getD ((ch l u t l.length).getD j 0) r0).v ≠ v) :
    let x := (ch l u t l.length).getD i 0
    x < l.length ∧ sd l (l.getD x r0).k u t l.length = x ∧ ∀ k, k < (l.getD x r0).k → sd l k u t l.length = -1 ∨ bv l (sd l k u t l.length) ≠ v := by
  intro x
  have hmem : x ∈ ch l u t l.length := by
    show (ch l u t l.length).getD i 0 ∈ _
    rw [List.getD_eq_getElem?_getD, List.getElem?_eq_getElem hi]
    exact List.getElem_mem hi
  obtain ⟨hx, hs⟩ := ch_said l u t hok l.length (Nat.le_refl _) x hmem
  refine ⟨hx, hs, fun k hk => ?_⟩
  by_cases h1 : sd l k u t l.length = -1
  · exact .inl h1
  · right
    have hb := sd_bd l k u t l.length
    obtain ⟨y, hy⟩ : ∃ y : Nat, sd l k u t l.length = y := ⟨(sd l k u t l.length).toNat, by omega⟩
    have hym := ch_all l k u t y hok hy
    have hyc := sd_cand l k u t l.length h1
    rw [hy] at hyc
    simp only [Int.toNat_natCast] at hyc
    obtain ⟨j, hj, e⟩ := List.getElem_of_mem hym
    have hxy : y < x := by
      have h1 := F_up (u := u) (t := t) hok (show k ≤ (l.getD x r0).k by omega)
      rw [hy, hs] at h1
      rcases (by omega : y < x ∨ y = x) with h | h
      · exact h
      · have := hyc.1
        rw [h] at this
        omega
    have hji : j < i := by
      rcases (by omega : j < i ∨ i ≤ j) with h | h
      · exact h
      · exfalso
        have hp := (ch_up l u t hok l.length (Nat.le_refl _)).2
        have hxe : x = (ch l u t l.length)[i] := by
          show (ch l u t l.length).getD i 0 = _
          rw [List.getD_eq_getElem?_getD, List.getElem?_eq_getElem hi]
          rfl
        rcases (by omega : i < j ∨ i = j) with h2 | h2
        · have := List.pairwise_iff_getElem.1 hp i j hi hj h2
          omega
        · subst h2
          omega
    have := hno j hji
    rw [getD_of _ j y hj e] at this
    rw [hy]
    unfold bv
    rw [if_neg (by omega)]
    simpa using this

theorem learned_none (l : List R) (u t : Nat) (v : Int) (hok : Ok l) (hno : ∀ j, j < (ch l u t l.length).length → (l.getD ((ch l u t l.length).getD j 0) r0).v ≠ v) (k : Nat) : sd l k u t l.length = -1 ∨ bv l (sd l k u t l.length) ≠ v := by
  by_cases h1 : sd l k u t l.length = -1
  · exact .inl h1
  · right
    have hb := sd_bd l k u t l.length
    obtain ⟨y, hy⟩ : ∃ y : Nat, sd l k u t l.length = y := ⟨(sd l k u t l.length).toNat, by omega⟩
    have hym := ch_all l k u t y hok hy
    obtain ⟨j, hj, e⟩ := List.getElem_of_mem hym
    have := hno j hj
    rw [getD_of _ j y hj e] at this
    rw [hy]
    unfold bv
    rw [if_neg (by omega)]
    simpa using this

/-! ### The line of a subject -/

def inLine (l : List R) (k u i : Nat) : Bool := decide (sd l k u (l.getD i r0).s l.length = i)

/-- The records of the line among the first n. -/
def ln (l : List R) (k u : Nat) : Nat → List R
  | 0 => []
  | n + 1 => if inLine l k u n then ln l k u n ++ [l.getD n r0] else ln l k u n

/-- The last one of the first n that is not behind a time. -/
def lastN (line : List R) (t : Nat) : Nat → Option R
  | 0 => none
  | n + 1 => if (line.getD n r0).s ≤ t then some (line.getD n r0) else lastN line t n

theorem ln_mem (l : List R) (k u : Nat) : ∀ n, n ≤ l.length → ∀ r : R, r ∈ ln l k u n ↔ ∃ i : Nat, i < n ∧ inLine l k u i = true ∧ l.getD i r0 = r
  | 0, _, r => by simp [ln]
  | n + 1, hn, r => by
    have ih := ln_mem l k u n (by omega) r
    have hs : r ∈ ln l k u (n + 1) ↔ r ∈ ln l k u n ∨ (inLine l k u n = true ∧ l.getD n r0 = r) := by
      simp only [ln]
      by_cases h : inLine l k u n = true
      · rw [if_pos h]
        constructor
        · intro hr
          rcases List.mem_append.1 hr with hr | hr
          · exact .inl hr
          · exact .inr ⟨h, (List.mem_singleton.1 hr).symm⟩
        · rintro (hr | ⟨_, hr⟩)
          · exact List.mem_append.2 (.inl hr)
          · exact List.mem_append.2 (.inr (List.mem_singleton.2 hr.symm))
      · rw [if_neg h]
        exact ⟨.inl, fun hr => hr.resolve_right (fun hh => h hh.1)⟩
    rw [hs, ih]
    constructor
    · rintro (⟨i, hi, h1, h2⟩ | ⟨h1, h2⟩)
      · exact ⟨i, by omega, h1, h2⟩
      · exact ⟨n, by omega, h1, h2⟩
    · rintro ⟨i, hi, h1, h2⟩
      by_cases e : i = n
      · subst e
        exact .inr ⟨h1, h2⟩
      · exact .inl ⟨i, by omega, h1, h2⟩

theorem inLine_at {l : List R} {k u i : Nat} (h : inLine l k u i = true) (hi : i < l.length) : cand l k u (l.getD i r0).s i := by
  have e : sd l k u (l.getD i r0).s l.length = i := of_decide_eq_true h
  have := sd_cand l k u (l.getD i r0).s l.length (by omega)
  rw [e] at this
  simpa only [Int.toNat_natCast] using this

theorem ln_len (l : List R) (k u : Nat) : ∀ n, (ln l k u n).length ≤ n
  | 0 => Nat.le_refl _
  | n + 1 => by
    have := ln_len l k u n
    simp only [ln]
    split
    · simp; omega
    · omega

theorem ln_nodup (l : List R) (k u : Nat) : ∀ n, n ≤ l.length → ((ln l k u n).map (·.s)).Nodup
  | 0, _ => by simp [ln]
  | n + 1, hn => by
    have ih := ln_nodup l k u n (by omega)
    simp only [ln]
    by_cases h : inLine l k u n = true
    · rw [if_pos h, List.map_append]
      refine List.nodup_append.2 ⟨ih, by simp, fun a ha b hb => ?_⟩
      have hb' : b = (l.getD n r0).s := by simpa using hb
      intro e
      obtain ⟨r, hr, e1⟩ := List.mem_map.1 ha
      obtain ⟨i, hi, h1, h2⟩ := (ln_mem l k u n (by omega) r).1 hr
      have e2 : (l.getD i r0).s = (l.getD n r0).s := by rw [h2, e1, e, hb']
      have e3 : sd l k u (l.getD i r0).s l.length = i := of_decide_eq_true h1
      have e4 : sd l k u (l.getD n r0).s l.length = n := of_decide_eq_true h
      rw [e2, e4] at e3
      omega
    · rw [if_neg h]
      exact ih

/-- A line: the records of the line, in the order of Since. -/
structure IsLine (l : List R) (k u : Nat) (line : List R) : Prop where
  perm : line.Perm (ln l k u l.length)
  up : ∀ i j, i < j → j < line.length → (line.getD i r0).s ≤ (line.getD j r0).s

theorem getD_mem' (xs : List R) (i : Nat) (h : i < xs.length) : xs.getD i r0 ∈ xs := by
  rw [List.getD_eq_getElem?_getD, List.getElem?_eq_getElem h]
  exact List.getElem_mem h

theorem IsLine.strict {l : List R} {k u : Nat} {line : List R} (h : IsLine l k u line) (i j : Nat) (hij : i < j) (hj : j < line.length) : (line.getD i r0).s < (line.getD j r0).s := by
  have h1 := h.up i j hij hj
  have h2 : (line.map (·.s)).Nodup := (h.perm.map _).nodup_iff.2 (ln_nodup l k u l.length (Nat.le_refl _))
  have h3 := List.pairwise_iff_getElem.1 h2 i j (by simp; omega) (by simpa using hj) hij
  have e1 : line.getD i r0 = line[i]'(by omega) := by
    rw [List.getD_eq_getElem?_getD, List.getElem?_eq_getElem (by omega)]
    rfl
  have e2 : line.getD j r0 = line[j] := by
    rw [List.getD_eq_getElem?_getD, List.getElem?_eq_getElem (by omega)]
    rfl
  rw [e1, e2] at h1 ⊢
  simp only [List.getElem_map] at h3
  omega

theorem IsLine.has {l : List R} {k u : Nat} {line : List R} (h : IsLine l k u line) (i : Nat) (hi : i < line.length) : ∃ x : Nat, x < l.length ∧ l.getD x r0 = line.getD i r0 ∧ cand l k u (line.getD i r0).s x := by
  have h1 : line.getD i r0 ∈ ln l k u l.length := h.perm.mem_iff.1 (getD_mem' line i hi)
  obtain ⟨x, hx, h2, h3⟩ := (ln_mem l k u l.length (Nat.le_refl _) _).1 h1
  have := inLine_at h2 hx
  rw [h3] at this
  exact ⟨x, hx, h3, this⟩

theorem lastN_none (line : List R) (t : Nat) : ∀ n, (∀ i, i < n → ¬ (line.getD i r0).s ≤ t) → lastN line t n = none
  | 0, _ => rfl
  | n + 1, h => by
    simp only [lastN]
    rw [if_neg (h n (by omega))]
    exact lastN_none line t n (fun i hi => h i (by omega))

theorem lastN_at (line : List R) (t j : Nat) (hj : (line.getD j r0).s ≤ t) : ∀ n, j < n → (∀ i, j < i → i < n → ¬ (line.getD i r0).s ≤ t) → lastN line t n = some (line.getD j r0)
  | 0, h, _ => absurd h (by omega)
  | n + 1, h, hn => by
    simp only [lastN]
    by_cases e : j = n
    · subst e
      exact if_pos hj
    · rw [if_neg (hn n (by omega) (by omega))]
      exact lastN_at line t j hj n (by omega) (fun i h1 h2 => hn i h1 (by omega))

theorem IsLine.last {l : List R} {k u : Nat} {line : List R} (h : IsLine l k u line) (t : Nat) : lastN line t line.length = ob l (sd l k u t l.length) := by
  by_cases h1 : sd l k u t l.length = -1
  · rw [h1]
    refine lastN_none line t _ (fun i hi hle => ?_)
    obtain ⟨x, hx, e, hc⟩ := h.has i hi
    exact (sd_max l k u t l.length x hx ⟨hc.1, hc.2.1, by have := hc.2.2; omega⟩).1 h1
  · have hb := sd_bd l k u t l.length
    have hc := sd_cand l k u t l.length h1
    obtain ⟨x, hx⟩ : ∃ x : Nat, sd l k u t l.length = x := ⟨(sd l k u t l.length).toNat, by omega⟩
    have hob : ob l (sd l k u t l.length) = some (l.getD x r0) := by
      rw [hx]
      unfold ob
      rw [if_neg (by omega)]
      simp
    rw [hob]
    have hmax := fun i hi hci => (sd_max l k u t l.length i hi hci).2
    rw [hx] at hc hmax
    simp only [Int.toNat_natCast] at hc hmax
    have hself : sd l k u (l.getD x r0).s l.length = x := by
      refine sd_uniq l k u _ l.length x (by omega) ⟨hc.1, hc.2.1, Nat.le_refl _⟩ (fun i hi hci => ?_)
      have := hmax i hi ⟨hci.1, hci.2.1, by have := hci.2.2; have := hc.2.2; omega⟩
      omega
    have hin : inLine l k u x = true := decide_eq_true hself
    have hm : l.getD x r0 ∈ line := h.perm.mem_iff.2 ((ln_mem l k u l.length (Nat.le_refl _) _).2 ⟨x, by omega, hin, rfl⟩)
    obtain ⟨j, hj, e⟩ := List.getElem_of_mem hm
    have e' : line.getD j r0 = l.getD x r0 := by
      rw [List.getD_eq_getElem?_getD, List.getElem?_eq_getElem hj]
      exact e
    rw [← e']
    refine lastN_at line t j (by rw [e']; exact hc.2.2) _ hj (fun i hi hil hle => ?_)
    have hst := h.strict j i hi hil
    obtain ⟨y, hy, ey, hcy⟩ := h.has i hil
    have := hmax y hy ⟨hcy.1, hcy.2.1, by have := hcy.2.2; omega⟩
    rw [ey] at this
    rw [e'] at hst
    omega
end Go.Proofs.Ytgaliinjjonlmaa.Lg
