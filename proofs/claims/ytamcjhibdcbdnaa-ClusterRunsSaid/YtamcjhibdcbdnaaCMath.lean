import Derived.Lib.Hide
namespace Go.Proofs.Ytamcjhibdcbdnaa.Cl
/-- A cluster: the fence, the sets, the replicas (generation, serving), the snapshots. -/
structure Cl where
  f : Bool
  s : List Nat
  r : List (Nat × Bool)
  p : List Nat

/-- An event: kind, replica, snapshot, bits. -/
structure Ev where
  k : Nat
  i : Nat
  q : Nat
  b : Nat

def rd (l : List (Nat × Bool)) (i : Nat) : Nat × Bool := l.getD i (0, false)

/-- A valid cluster behind at most m events. -/
structure Ok (m : Nat) (c : Cl) : Prop where
  s1 : 1 ≤ c.s.length
  s2 : c.s.length ≤ m + 1
  r1 : 1 ≤ c.r.length
  r2 : c.r.length ≤ 3
  p2 : c.p.length ≤ m
  sb : ∀ i, i < c.s.length → c.s.getD i 0 ≤ 3
  rb : ∀ i, i < c.r.length → (rd c.r i).1 < c.s.length
  pb : ∀ i, i < c.p.length → c.p.getD i 0 < c.s.length

/-- An event that the maker makes. -/
def Good (c : Cl) (x : Ev) : Prop :=
  (x.k = 1 ∧ x.i = 0 ∧ x.q = 0 ∧ x.b ≤ 3) ∨ (x.k = 2 ∧ x.i < c.r.length ∧ x.q = 0 ∧ x.b = 0) ∨ (x.k = 3 ∧ x.i < c.r.length ∧ x.q = 0 ∧ x.b = 0) ∨ (x.k = 4 ∧ x.i < c.r.length ∧ x.q ≤ c.p.length ∧ x.b = 0)

/-- Does it fit? -/
def fitB (c : Cl) (x : Ev) : Bool := !(x.k == 4 && x.q == c.p.length)

def ap (c : Cl) (x : Ev) : Cl :=
  if x.k = 1 then ⟨c.f, c.s ++ [x.b], c.r, c.p⟩
  else if x.k = 2 then ⟨c.f, c.s, c.r.set x.i (c.s.length - 1, true), c.p⟩
  else if x.k = 3 then ⟨c.f, c.s, c.r, c.p ++ [(rd c.r x.i).1]⟩
  else ⟨c.f, c.s, c.r.set x.i (c.p.getD x.q 0, !c.f), c.p⟩

theorem gd_left (l : List Nat) (x i : Nat) (h : i < l.length) : (l ++ [x]).getD i 0 = l.getD i 0 := by
  rw [List.getD_eq_getElem?_getD, List.getD_eq_getElem?_getD, List.getElem?_append_left h]
theorem gd_end (l : List Nat) (x : Nat) : (l ++ [x]).getD l.length 0 = x := by
  rw [List.getD_eq_getElem?_getD, List.getElem?_append_right (Nat.le_refl _)]
  simp

theorem rd_set (l : List (Nat × Bool)) (i j : Nat) (v : Nat × Bool) (h : i < l.length) : rd (l.set i v) j = if j = i then v else rd l j := by
  unfold rd
  rw [List.getD_eq_getElem?_getD, List.getD_eq_getElem?_getD, List.getElem?_set]
  by_cases e : i = j
  · subst e
    simp [h]
  · rw [if_neg e, if_neg (fun h => e h.symm)]

theorem ok_ap {m : Nat} {c : Cl} {x : Ev} (h : Ok m c) (hg : Good c x) (hf : fitB c x = true) : Ok (m + 1) (ap c x) := by
  obtain ⟨s1, s2, r1, r2, p2, sb, rb, pb⟩ := h
  unfold ap
  rcases hg with ⟨hk, h1, h2, h3⟩ | ⟨hk, h1, h2, h3⟩ | ⟨hk, h1, h2, h3⟩ | ⟨hk, h1, h2, h3⟩
  · rw [if_pos hk]
    refine ⟨by simp, by simp; omega, r1, r2, by show c.p.length ≤ _; omega, fun i hi => ?_, fun i hi => ?_, fun i hi => ?_⟩
    · simp at hi
      show (c.s ++ [x.b]).getD i 0 ≤ 3
      by_cases hl : i < c.s.length
      · rw [gd_left _ _ _ hl]
        exact sb i hl
      · obtain rfl : i = c.s.length := by omega
        rw [gd_end]
        exact h3
    · have := rb i hi
      simp
      show (rd c.r i).1 < _
      omega
    · have := pb i hi
      show c.p.getD i 0 < (c.s ++ [x.b]).length
      simp only [List.length_append, List.length_singleton]
      omega
  · rw [if_neg (by omega), if_pos hk]
    refine ⟨s1, by show c.s.length ≤ _; omega, by simpa using r1, by simpa using r2, by show c.p.length ≤ _; omega, sb, fun i hi => ?_, pb⟩
    show (rd (c.r.set x.i _) i).1 < c.s.length
    rw [rd_set _ _ _ _ h1]
    split
    · show c.s.length - 1 < _
      omega
    · exact rb i (by simpa using hi)
  · rw [if_neg (by omega), if_neg (by omega), if_pos hk]
    refine ⟨s1, by show c.s.length ≤ _; omega, r1, r2, by simp; omega, sb, rb, fun i hi => ?_⟩
    simp at hi
    show (c.p ++ [(rd c.r x.i).1]).getD i 0 < c.s.length
    by_cases hl : i < c.p.length
    · rw [gd_left _ _ _ hl]
      exact pb i hl
    · obtain rfl : i = c.p.length := by omega
      rw [gd_end]
      exact rb _ h1
  · rw [if_neg (by omega), if_neg (by omega), if_neg (by omega)]
    have hq : x.q < c.p.length := by
      unfold fitB at hf
      rw [hk] at hf
      simp at hf
      omega
    refine ⟨s1, by show c.s.length ≤ _; omega, by simpa using r1, by simpa using r2, by show c.p.length ≤ _; omega, sb, fun i hi => ?_, pb⟩
    show (rd (c.r.set x.i _) i).1 < c.s.length
    rw [rd_set _ _ _ _ h1]
    split
    · exact pb _ hq
    · exact rb i (by simpa using hi)

theorem Ok.mono {m n : Nat} {c : Cl} (h : Ok m c) (hm : m ≤ n) : Ok n c :=
  ⟨h.s1, by have := h.s2; omega, h.r1, h.r2, by have := h.p2; omega, h.sb, h.rb, h.pb⟩

/-- Has a set a bit? -/
def has (x b : Nat) : Bool := x &&& b != 0

def acc (c : Cl) (i b : Nat) : Bool := (rd c.r i).2 && has (c.s.getD (rd c.r i).1 0) b

def newest (c : Cl) : Nat := c.s.getD (c.s.length - 1) 0

/-- The first n replicas do not accept. -/
def none_ (c : Cl) (b : Nat) : Nat → Bool
  | 0 => true
  | n + 1 => none_ c b n && !acc c n b

def dead (c : Cl) (b : Nat) : Bool := !has (newest c) b && none_ c b c.r.length

theorem none_iff (c : Cl) (b : Nat) : ∀ n, none_ c b n = true ↔ ∀ i, i < n → acc c i b = false
  | 0 => by simp [none_]
  | n + 1 => by
    simp only [none_, Bool.and_eq_true, none_iff c b n, Bool.not_eq_true']
    constructor
    · intro ⟨h1, h2⟩ i hi
      by_cases e : i = n
      · rw [e]; exact h2
      · exact h1 i (by omega)
    · intro h
      exact ⟨fun i hi => h i (by omega), h n (by omega)⟩

theorem dead_iff (c : Cl) (b : Nat) : dead c b = true ↔ has (newest c) b = false ∧ ∀ i, i < c.r.length → acc c i b = false := by
  unfold dead
  rw [Bool.and_eq_true, none_iff]
  simp
end Go.Proofs.Ytamcjhibdcbdnaa.Cl
