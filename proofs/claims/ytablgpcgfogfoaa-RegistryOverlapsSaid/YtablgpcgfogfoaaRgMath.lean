import Derived.Lib.Hide
namespace Go.Proofs.Ytablgpcgfogfoaa.Rg

/-- A credential. -/
structure Cr where
  i : Nat
  p : Nat
  h : Nat
  f : Nat
  u : Nat
/-- A registry: the slots of the issuers, the credentials. -/
structure Rg where
  s : List Nat
  c : List Cr
def c0 : Cr := ⟨0, 0, 0, 0, 0⟩
def cg (r : Rg) (j : Nat) : Cr := r.c.getD j c0

def val (x : Cr) (t : Nat) : Bool := decide (x.f ≤ t) && decide (t < x.u)
def hit (x : Cr) (i h t : Nat) : Bool := x.i == i && x.h == h && val x t

/-- The numbers below n for which p holds. -/
def idx (p : Nat → Bool) : Nat → List Nat
  | 0 => []
  | n + 1 => if p n then idx p n ++ [n] else idx p n
def cnt (p : Nat → Bool) : Nat → Nat
  | 0 => 0
  | n + 1 => cnt p n + if p n then 1 else 0
def anyB (p : Nat → Bool) : Nat → Bool
  | 0 => false
  | n + 1 => anyB p n || p n

theorem any_iff (p : Nat → Bool) : ∀ n, anyB p n = true ↔ ∃ i, i < n ∧ p i = true
  | 0 => by simp [anyB]
  | n + 1 => by
    rw [anyB, Bool.or_eq_true, any_iff p n]
    constructor
    · rintro (⟨i, h1, h2⟩ | h)
      · exact ⟨i, by omega, h2⟩
      · exact ⟨n, by omega, h⟩
    · rintro ⟨i, h1, h2⟩
      by_cases e : i = n
      · exact .inr (by rw [← e]; exact h2)
      · exact .inl ⟨i, by omega, h2⟩
theorem any_no {p : Nat → Bool} {n : Nat} (h : ∀ i, i < n → p i = false) : anyB p n = false := by
  cases ha : anyB p n with
  | false => rfl
  | true =>
    obtain ⟨i, h1, h2⟩ := (any_iff p n).1 ha
    rw [h i h1] at h2
    cases h2
theorem no_any {p : Nat → Bool} {n : Nat} (h : anyB p n = false) (i : Nat) (hi : i < n) : p i = false := by
  cases hp : p i with
  | false => rfl
  | true =>
    rw [(any_iff p n).2 ⟨i, hi, hp⟩] at h
    cases h

theorem idx_len (p : Nat → Bool) : ∀ n, (idx p n).length = cnt p n
  | 0 => rfl
  | n + 1 => by
    rw [idx, cnt]
    split
    · rw [List.length_append, idx_len p n]; rfl
    · rw [idx_len p n]; rfl
theorem idx_mem (p : Nat → Bool) (j : Nat) : ∀ n, j ∈ idx p n ↔ j < n ∧ p j = true
  | 0 => by simp [idx]
  | n + 1 => by
    rw [idx]
    split
    · rename_i h
      rw [List.mem_append, idx_mem p j n]
      constructor
      · rintro (⟨h1, h2⟩ | h1)
        · exact ⟨by omega, h2⟩
        · rw [List.mem_singleton] at h1; subst h1; exact ⟨by omega, h⟩
      · rintro ⟨h1, h2⟩
        by_cases e : j = n
        · exact .inr (by rw [e]; exact List.mem_singleton.2 rfl)
        · exact .inl ⟨by omega, h2⟩
    · rename_i h
      rw [idx_mem p j n]
      constructor
      · rintro ⟨h1, h2⟩
        exact ⟨by omega, h2⟩
      · rintro ⟨h1, h2⟩
        refine ⟨?_, h2⟩
        by_cases e : j = n
        · rw [e] at h2; exact absurd h2 h
        · omega
theorem cnt_le (p : Nat → Bool) : ∀ n, cnt p n ≤ n
  | 0 => Nat.le_refl _
  | n + 1 => by
    have := cnt_le p n
    rw [cnt]
    split <;> omega
theorem cnt_mono {p q : Nat → Bool} : ∀ n, (∀ j, j < n → p j = true → q j = true) → cnt p n ≤ cnt q n
  | 0, _ => Nat.le_refl _
  | n + 1, h => by
    have ih := cnt_mono n (fun j hj => h j (by omega))
    rw [cnt, cnt]
    by_cases hp : p n = true
    · rw [if_pos hp, if_pos (h n (by omega) hp)]; omega
    · rw [if_neg hp]; omega
theorem cnt_congr {p q : Nat → Bool} : ∀ n, (∀ j, j < n → p j = q j) → cnt p n = cnt q n
  | 0, _ => rfl
  | n + 1, h => by
    rw [cnt, cnt, cnt_congr n (fun j hj => h j (by omega)), h n (by omega)]
theorem cnt_pos {p : Nat → Bool} : ∀ n, 0 < cnt p n → ∃ j, j < n ∧ p j = true
  | 0, h => absurd h (by simp [cnt])
  | n + 1, h => by
    by_cases hp : p n = true
    · exact ⟨n, by omega, hp⟩
    · rw [cnt, if_neg hp] at h
      obtain ⟨j, h1, h2⟩ := cnt_pos n h
      exact ⟨j, by omega, h2⟩
theorem max_of {p : Nat → Bool} (f : Nat → Nat) : ∀ n, (∃ j, j < n ∧ p j = true) → ∃ m, m < n ∧ p m = true ∧ ∀ j, j < n → p j = true → f j ≤ f m
  | 0, h => by obtain ⟨j, h, _⟩ := h; omega
  | n + 1, h => by
    by_cases h0 : ∃ j, j < n ∧ p j = true
    · obtain ⟨m, h1, h2, h3⟩ := max_of f n h0
      by_cases hp : p n = true ∧ f m < f n
      · refine ⟨n, by omega, hp.1, fun j hj h4 => ?_⟩
        by_cases e : j = n
        · rw [e]; exact Nat.le_refl _
        · have := h3 j (by omega) h4; omega
      · refine ⟨m, by omega, h2, fun j hj h4 => ?_⟩
        by_cases e : j = n
        · subst e
          by_cases h5 : f m < f j
          · exact absurd ⟨h4, h5⟩ hp
          · omega
        · exact h3 j (by omega) h4
    · obtain ⟨j, h1, h2⟩ := h
      have e : j = n := by
        by_cases e : j = n
        · exact e
        · exact absurd ⟨j, by omega, h2⟩ h0
      subst e
      refine ⟨j, by omega, h2, fun k hk h3 => ?_⟩
      by_cases e : k = j
      · rw [e]; exact Nat.le_refl _
      · exact absurd ⟨k, by omega, h3⟩ h0

def held (r : Rg) (i h t : Nat) : List Nat := idx (fun j => hit (cg r j) i h t) r.c.length
/-- How many are held. -/
def hc (r : Rg) (i h t : Nat) : Nat := cnt (fun j => hit (cg r j) i h t) r.c.length
def sl (r : Rg) (i : Nat) : Nat := r.s.getD i 0
def crow (r : Rg) (j : Nat) : Bool := decide (sl r (cg r j).i < hc r (cg r j).i (cg r j).h (cg r j).f)
def crowd (r : Rg) : Bool := anyB (crow r) r.c.length

/-- The fields of a credential are right. -/
structure Cw (r : Rg) (x : Cr) : Prop where
  i : x.i < r.s.length
  p : x.p ≤ 1000
  h : x.h < 24
  f : x.f < x.u
  u : x.u ≤ 1000
/-- The fields are right. -/
structure Wf (r : Rg) : Prop where
  n1 : r.s.length ≤ 8
  n2 : r.c.length ≤ 24
  s : ∀ i, i < r.s.length → 1 ≤ sl r i ∧ sl r i ≤ 2
  c : ∀ j, j < r.c.length → Cw r (cg r j)

theorem hit_iff (x : Cr) (i h t : Nat) : hit x i h t = true ↔ x.i = i ∧ x.h = h ∧ x.f ≤ t ∧ t < x.u := by
  unfold hit val
  simp only [Bool.and_eq_true, beq_iff_eq, decide_eq_true_eq]
  constructor
  · rintro ⟨⟨h1, h2⟩, h3, h4⟩; exact ⟨h1, h2, h3, h4⟩
  · rintro ⟨h1, h2, h3, h4⟩; exact ⟨⟨h1, h2⟩, h3, h4⟩

/-- Most are held at once when one of them begins. -/
theorem crowd_of {r : Rg} {i h t : Nat} (hc' : sl r i < hc r i h t) : crowd r = true := by
  obtain ⟨m, h1, h2, h3⟩ := max_of (p := fun j => hit (cg r j) i h t) (fun j => (cg r j).f) r.c.length (cnt_pos _ (by unfold hc at hc'; omega))
  obtain ⟨a1, a2, a3, a4⟩ := (hit_iff _ _ _ _).1 h2
  refine (any_iff _ _).2 ⟨m, h1, ?_⟩
  unfold crow
  rw [decide_eq_true_eq, a1, a2]
  refine Nat.lt_of_lt_of_le hc' (cnt_mono _ fun j hj hp => ?_)
  obtain ⟨b1, b2, b3, b4⟩ := (hit_iff _ _ _ _).1 hp
  exact (hit_iff _ _ _ _).2 ⟨b1, b2, h3 j hj hp, by omega⟩
theorem hc_le {r : Rg} (h0 : crowd r = false) (i h t : Nat) : hc r i h t ≤ sl r i := by
  by_cases hx : sl r i < hc r i h t
  · rw [crowd_of hx] at h0; cases h0
  · omega

/-- With one more. -/
def add (r : Rg) (x : Cr) : Rg := ⟨r.s, r.c ++ [x]⟩
theorem cg_left {r : Rg} {x : Cr} {j : Nat} (h : j < r.c.length) : cg (add r x) j = cg r j := by
  unfold cg add
  rw [List.getD_eq_getElem?_getD, List.getD_eq_getElem?_getD, List.getElem?_append_left h]
theorem cg_end {r : Rg} {x : Cr} : cg (add r x) r.c.length = x := by
  unfold cg add
  rw [List.getD_eq_getElem?_getD, List.getElem?_append_right (Nat.le_refl _)]
  simp
theorem add_len (r : Rg) (x : Cr) : (add r x).c.length = r.c.length + 1 := by simp [add]
theorem hc_add (r : Rg) (x : Cr) (i h t : Nat) : hc (add r x) i h t = hc r i h t + if hit x i h t then 1 else 0 := by
  unfold hc
  rw [add_len, cnt, cg_end]
  rw [cnt_congr (q := fun j => hit (cg r j) i h t) r.c.length (fun j hj => by rw [cg_left hj])]

/-- Is there room as long as x is valid? -/
def roomy (r : Rg) (x : Cr) : Prop := ∀ t, x.f ≤ t → t < x.u → hc r x.i x.h t < sl r x.i

theorem add_crowd {r : Rg} {x : Cr} (h0 : crowd r = false) : crowd (add r x) = false ↔ roomy r x := by
  constructor
  · intro h t h1 h2
    have := hc_le h x.i x.h t
    rw [hc_add, if_pos ((hit_iff _ _ _ _).2 ⟨rfl, rfl, h1, h2⟩)] at this
    show hc r x.i x.h t < sl (add r x) x.i
    omega
  · intro h
    refine any_no fun j hj => ?_
    unfold crow
    rw [decide_eq_false_iff_not]
    generalize cg (add r x) j = y
    rw [hc_add]
    have h1 := hc_le h0 y.i y.h y.f
    have e : sl (add r x) y.i = sl r y.i := rfl
    rw [e]
    by_cases hh : hit x y.i y.h y.f = true
    · rw [if_pos hh]
      obtain ⟨a1, a2, a3, a4⟩ := (hit_iff _ _ _ _).1 hh
      have := h y.f a3 a4
      rw [a1, a2] at this
      omega
    · rw [if_neg hh]
      omega

/-- One ends sooner. -/
def cut (x : Cr) (t : Nat) : Cr := ⟨x.i, x.p, x.h, x.f, min t x.u⟩
def rev (r : Rg) (k t : Nat) : Rg := ⟨r.s, r.c.set k (cut (cg r k) t)⟩
theorem rev_len (r : Rg) (k t : Nat) : (rev r k t).c.length = r.c.length := by simp [rev]
theorem cg_rev {r : Rg} {k t : Nat} (hk : k < r.c.length) (j : Nat) : cg (rev r k t) j = if j = k then cut (cg r k) t else cg r j := by
  show (r.c.set k (cut (cg r k) t)).getD j c0 = _
  rw [List.getD_eq_getElem?_getD, List.getElem?_set]
  by_cases e : k = j
  · subst e
    rw [if_pos rfl, if_pos rfl, if_pos hk]
    rfl
  · rw [if_neg e, if_neg (fun h => e h.symm), ← List.getD_eq_getElem?_getD]
    rfl
theorem rev_crowd {r : Rg} {k t : Nat} (h0 : crowd r = false) (hk : k < r.c.length) : crowd (rev r k t) = false := by
  have hle : ∀ i h t', hc (rev r k t) i h t' ≤ hc r i h t' := fun i h t' => by
    unfold hc
    rw [rev_len]
    refine cnt_mono _ fun j hj hp => ?_
    rw [cg_rev hk] at hp
    by_cases e : j = k
    · rw [if_pos e] at hp
      obtain ⟨a1, a2, a3, a4⟩ := (hit_iff _ _ _ _).1 hp
      rw [e]
      exact (hit_iff _ _ _ _).2 ⟨a1, a2, a3, by have : min t (cg r k).u ≤ (cg r k).u := Nat.min_le_right _ _; exact Nat.lt_of_lt_of_le a4 this⟩
    · rwa [if_neg e] at hp
  refine any_no fun j hj => ?_
  unfold crow
  rw [decide_eq_false_iff_not]
  have := hle (cg (rev r k t) j).i (cg (rev r k t) j).h (cg (rev r k t) j).f
  have := hc_le h0 (cg (rev r k t) j).i (cg (rev r k t) j).h (cg (rev r k t) j).f
  have e : sl (rev r k t) (cg (rev r k t) j).i = sl r (cg (rev r k t) j).i := rfl
  omega

theorem Wf.add {r : Rg} {x : Cr} (h : Wf r) (hx : Cw r x) (hn : r.c.length < 24) : Wf (add r x) := by
  refine ⟨h.n1, by rw [add_len]; omega, h.s, fun j hj => ?_⟩
  rw [add_len] at hj
  by_cases e : j = r.c.length
  · subst e
    rw [cg_end]
    exact ⟨hx.i, hx.p, hx.h, hx.f, hx.u⟩
  · rw [cg_left (by omega)]
    have := h.c j (by omega)
    exact ⟨this.i, this.p, this.h, this.f, this.u⟩
theorem Wf.rev {r : Rg} {k t : Nat} (h : Wf r) (hk : k < r.c.length) (ht : (cg r k).f < t) : Wf (rev r k t) := by
  refine ⟨h.n1, by rw [rev_len]; exact h.n2, h.s, fun j hj => ?_⟩
  rw [rev_len] at hj
  rw [cg_rev hk]
  have h1 := h.c j hj
  by_cases e : j = k
  · rw [if_pos e]
    rw [e] at h1
    exact ⟨h1.i, h1.p, h1.h, by show (cg r k).f < min t (cg r k).u; have := h1.f; omega, by show min t (cg r k).u ≤ 1000; have := h1.u; omega⟩
  · rw [if_neg e]
    exact ⟨h1.i, h1.p, h1.h, h1.f, h1.u⟩

end Go.Proofs.Ytablgpcgfogfoaa.Rg
