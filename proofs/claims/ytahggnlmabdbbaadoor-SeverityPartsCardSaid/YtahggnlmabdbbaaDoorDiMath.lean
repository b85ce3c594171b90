import Derived.WalkKit
namespace Go.Proofs.YtahggnlmabdbbaaDoor.Di
set_option linter.unusedVariables false

/-- q is reached from p over numbers below n. -/
inductive Reach (M : Nat → Nat → Bool) (n p : Nat) : Nat → Prop where
  | here : Reach M n p p
  | step {u q : Nat} : Reach M n p u → u < n → q < n → M u q = true → Reach M n p q

/-- The state of the walk upward: th: 0, or one more than the one through which a number is reached; L: those that are reached, in the order in which they were. -/
structure Bfs (M : Nat → Nat → Bool) (n p : Nat) (th L : List Nat) : Prop where
  len : th.length = n
  lt : ∀ j, j < L.length → L.getD j 0 < n
  inj : ∀ i j, i < L.length → j < L.length → L.getD i 0 = L.getD j 0 → i = j
  pos : 0 < L.length
  hd : L.getD 0 0 = p
  self : th.getD p 0 = p + 1
  seen : ∀ q, q < n → (0 < th.getD q 0 ↔ ∃ j, j < L.length ∧ L.getD j 0 = q)
  via : ∀ j, 0 < j → j < L.length → ∃ i, i < j ∧ th.getD (L.getD j 0) 0 = L.getD i 0 + 1 ∧ M (L.getD i 0) (L.getD j 0) = true

theorem getD_snoc_left {l : List Nat} {x j : Nat} (h : j < l.length) : (l ++ [x]).getD j 0 = l.getD j 0 := by
  rw [List.getD_eq_getElem?_getD, List.getD_eq_getElem?_getD, List.getElem?_append_left h]
theorem getD_snoc_end {l : List Nat} {x : Nat} : (l ++ [x]).getD l.length 0 = x := by
  rw [List.getD_eq_getElem?_getD, List.getElem?_append_right (Nat.le_refl _)]
  simp
theorem getD_set {l : List Nat} {k x : Nat} (h : k < l.length) (j : Nat) : (l.set k x).getD j 0 = if j = k then x else l.getD j 0 := by
  rw [List.getD_eq_getElem?_getD, List.getD_eq_getElem?_getD, List.getElem?_set]
  by_cases e : k = j
  · subst e; simp [h]
  · rw [if_neg e, if_neg (Ne.symm e)]

theorem Bfs.start {M : Nat → Nat → Bool} {n p : Nat} (h : p < n) : Bfs M n p ((List.replicate n 0).set p (p + 1)) [p] := by
  have hl : p < (List.replicate n 0).length := by simpa using h
  have h0 : ∀ q, (List.replicate n 0).getD q 0 = 0 := fun q => by
    rw [List.getD_eq_getElem?_getD, List.getElem?_replicate]
    split <;> rfl
  refine ⟨by simp, fun j hj => ?_, fun i j hi hj _ => ?_, by simp, rfl, by rw [getD_set hl, if_pos rfl], fun q hq => ?_, fun j h0 hj => ?_⟩
  · simp at hj; subst hj; exact h
  · simp at hi hj; omega
  · rw [getD_set hl, h0]
    constructor
    · intro hq'
      by_cases e : q = p
      · exact ⟨0, by simp, e.symm⟩
      · rw [if_neg e] at hq'; omega
    · rintro ⟨j, hj, e⟩
      simp at hj
      subst hj
      have e' : p = q := e
      rw [if_pos e'.symm]; omega
  · simp at hj; omega

theorem Bfs.new {M : Nat → Nat → Bool} {n p k g : Nat} {th L : List Nat} (h : Bfs M n p th L) (hk : k < L.length) (hg : g < n) (hm : M (L.getD k 0) g = true) (h0 : th.getD g 0 = 0) :
    Bfs M n p (th.set g (L.getD k 0 + 1)) (L ++ [g]) := by
  have hgl : g < th.length := by rw [h.len]; exact hg
  have hno : ∀ j, j < L.length → L.getD j 0 ≠ g := fun j hj e => by
    have := (h.seen g hg).2 ⟨j, hj, e⟩
    omega
  have hp : p ≠ g := fun e => hno 0 h.pos (h.hd.trans e)
  have split : ∀ j, j < (L ++ [g]).length → j < L.length ∨ j = L.length := fun j hj => by simp at hj; omega
  refine ⟨by simp [h.len], fun j hj => ?_, fun i j hi hj e => ?_, by simp, ?_, by rw [getD_set hgl, if_neg hp]; exact h.self, fun q hq => ?_, fun j hj0 hj => ?_⟩
  · rcases split j hj with h1 | rfl
    · rw [getD_snoc_left h1]; exact h.lt j h1
    · rw [getD_snoc_end]; exact hg
  · rcases split i hi with h1 | rfl <;> rcases split j hj with h2 | rfl
    · rw [getD_snoc_left h1, getD_snoc_left h2] at e; exact h.inj i j h1 h2 e
    · rw [getD_snoc_left h1, getD_snoc_end] at e; exact absurd e (hno i h1)
    · rw [getD_snoc_left h2, getD_snoc_end] at e; exact absurd e.symm (hno j h2)
    · rfl
  · rw [getD_snoc_left h.pos]; exact h.hd
  · rw [getD_set hgl]
    by_cases e : q = g
    · rw [if_pos e]
      exact ⟨fun _ => ⟨L.length, by simp, by rw [getD_snoc_end]; exact e.symm⟩, fun _ => by omega⟩
    · rw [if_neg e, h.seen q hq]
      constructor
      · rintro ⟨j, hj, e'⟩
        exact ⟨j, by simp; omega, by rw [getD_snoc_left hj]; exact e'⟩
      · rintro ⟨j, hj, e'⟩
        rcases split j hj with h1 | rfl
        · exact ⟨j, h1, by rw [getD_snoc_left h1] at e'; exact e'⟩
        · rw [getD_snoc_end] at e'; exact absurd e'.symm e
  · rcases split j hj with h1 | rfl
    · obtain ⟨i, hi, e1, e2⟩ := h.via j hj0 h1
      refine ⟨i, hi, ?_, ?_⟩
      · rw [getD_snoc_left h1, getD_snoc_left (by omega), getD_set hgl, if_neg (hno j h1)]; exact e1
      · rw [getD_snoc_left h1, getD_snoc_left (by omega)]; exact e2
    · refine ⟨k, hk, ?_, ?_⟩
      · rw [getD_snoc_end, getD_set hgl, if_pos rfl, getD_snoc_left hk]
      · rw [getD_snoc_end, getD_snoc_left hk]; exact hm

/-- All that the first k lead to is reached. -/
def Shut (M : Nat → Nat → Bool) (n : Nat) (L : List Nat) (k : Nat) : Prop := ∀ i, i < k → i < L.length → ∀ g, g < n → M (L.getD i 0) g = true → ∃ j, j < L.length ∧ L.getD j 0 = g
theorem Shut.snoc {M : Nat → Nat → Bool} {n k x : Nat} {L : List Nat} (h : Shut M n L k) (hk : k ≤ L.length) : Shut M n (L ++ [x]) k := fun i hi hl g hg hm => by
  rw [getD_snoc_left (by omega)] at hm
  obtain ⟨j, hj, e⟩ := h i hi (by omega) g hg hm
  exact ⟨j, by simp; omega, by rw [getD_snoc_left hj]; exact e⟩

theorem Bfs.reached {M : Nat → Nat → Bool} {n p : Nat} {th L : List Nat} (h : Bfs M n p th L) : ∀ j, j < L.length → Reach M n p (L.getD j 0) := by
  intro j
  induction j using Nat.strongRecOn with
  | _ j ih =>
    intro hj
    by_cases e : j = 0
    · subst e; rw [h.hd]; exact .here
    · obtain ⟨i, hi, -, hm⟩ := h.via j (by omega) hj
      exact .step (ih i hi (by omega)) (h.lt i (by omega)) (h.lt j hj) hm
theorem Bfs.all {M : Nat → Nat → Bool} {n p : Nat} {th L : List Nat} (h : Bfs M n p th L) (hs : Shut M n L L.length) {q : Nat} (hr : Reach M n p q) : ∃ j, j < L.length ∧ L.getD j 0 = q := by
  induction hr with
  | here => exact ⟨0, h.pos, h.hd⟩
  | step _ _ hq hm ih =>
    obtain ⟨j, hj, e⟩ := ih
    exact hs j hj hj _ hq (by rw [e]; exact hm)
/-- What the walk gives: who is reached. -/
theorem Bfs.done {M : Nat → Nat → Bool} {n p : Nat} {th L : List Nat} (h : Bfs M n p th L) (hs : Shut M n L L.length) {q : Nat} (hq : q < n) : 0 < th.getD q 0 ↔ Reach M n p q := by
  rw [h.seen q hq]
  exact ⟨fun ⟨j, hj, e⟩ => e ▸ h.reached j hj, fun hr => h.all hs hr⟩
theorem pigeon : ∀ (n m : Nat) (f : Nat → Nat), (∀ j, j < m → f j < n) → (∀ i j, i < m → j < m → f i = f j → i = j) → m ≤ n
  | 0, 0, f, _, _ => Nat.le_refl _
  | 0, m + 1, f, h, _ => absurd (h 0 (by omega)) (by omega)
  | n + 1, 0, f, _, _ => by omega
  | n + 1, k + 1, f, h, hi => by
    have := pigeon n k (fun j => if f j = n then f k else f j) (fun j hj => by
      have h1 := h j (by omega)
      have h2 := h k (by omega)
      show (if f j = n then f k else f j) < n
      by_cases e : f j = n
      · rw [if_pos e]
        by_cases e2 : f k = n
        · have := hi j k (by omega) (by omega) (e.trans e2.symm); omega
        · omega
      · rw [if_neg e]; omega) (fun i j h1 h2 e => by
      have e' : (if f i = n then f k else f i) = (if f j = n then f k else f j) := e
      by_cases a : f i = n <;> by_cases b : f j = n
      · exact hi i j (by omega) (by omega) (a.trans b.symm)
      · rw [if_pos a, if_neg b] at e'
        have := hi k j (by omega) (by omega) e'; omega
      · rw [if_neg a, if_pos b] at e'
        have := hi i k (by omega) (by omega) e'; omega
      · rw [if_neg a, if_neg b] at e'
        exact hi i j (by omega) (by omega) e')
    omega
theorem Bfs.le {M : Nat → Nat → Bool} {n p : Nat} {th L : List Nat} (h : Bfs M n p th L) : L.length ≤ n :=
  pigeon n L.length (fun j => L.getD j 0) h.lt h.inj

/-- The chain back from a group: c: those passed so far, the last at place k of L. -/
structure Back (M : Nat → Nat → Bool) (th L : List Nat) (g : Nat) (c : List Nat) (k : Nat) : Prop where
  pos : 0 < c.length
  hd : c.getD 0 0 = g
  kl : k < L.length
  last : c.getD (c.length - 1) 0 = L.getD k 0
  at_ : ∃ f : Nat → Nat, f (c.length - 1) = k ∧ (∀ i, i < c.length → f i < L.length ∧ c.getD i 0 = L.getD (f i) 0) ∧ (∀ i, i + 1 < c.length → f (i + 1) < f i)
  link : ∀ i, i + 1 < c.length → M (c.getD (i + 1) 0) (c.getD i 0) = true

theorem Back.start {M : Nat → Nat → Bool} {th L : List Nat} {k : Nat} (hk : k < L.length) : Back M th L (L.getD k 0) [L.getD k 0] k :=
  ⟨by simp, rfl, hk, rfl, ⟨fun _ => k, rfl, fun i hi => by simp at hi; subst hi; exact ⟨hk, rfl⟩, fun i hi => by simp at hi⟩, fun i hi => by simp at hi⟩

theorem Back.next {M : Nat → Nat → Bool} {n p g k : Nat} {th L c : List Nat} (h : Bfs M n p th L) (b : Back M th L g c k) (hk : 0 < k) :
    ∃ k', k' < k ∧ th.getD (L.getD k 0) 0 = L.getD k' 0 + 1 ∧ Back M th L g (c ++ [L.getD k' 0]) k' := by
  obtain ⟨k', h1, h2, h3⟩ := h.via k hk b.kl
  obtain ⟨f, f1, f2, f3⟩ := b.at_
  have hp := b.pos
  refine ⟨k', h1, h2, ⟨by simp, by rw [getD_snoc_left hp]; exact b.hd, by have := b.kl; omega, ?_, ⟨fun i => if i = c.length then k' else f i, ?_, fun i hi => ?_, fun i hi => ?_⟩, fun i hi => ?_⟩⟩
  · rw [show (c ++ [L.getD k' 0]).length - 1 = c.length by simp, getD_snoc_end]
  · simp
  · simp at hi
    by_cases e : i = c.length
    · subst e
      rw [getD_snoc_end]
      refine ⟨?_, ?_⟩
      · have := b.kl; simp; omega
      · simp
    · simp only [if_neg e]
      rw [getD_snoc_left (by omega)]
      exact f2 i (by omega)
  · simp at hi
    have e1 : i ≠ c.length := by omega
    simp only [if_neg e1]
    by_cases e : i + 1 = c.length
    · simp only [if_pos e]
      rw [show i = c.length - 1 by omega, f1]; exact h1
    · simp only [if_neg e]
      exact f3 i (by omega)
  · simp at hi
    by_cases e : i + 1 = c.length
    · rw [e, getD_snoc_end, getD_snoc_left (by omega), show i = c.length - 1 by omega, b.last]; exact h3
    · rw [getD_snoc_left (by omega), getD_snoc_left (by omega)]
      exact b.link i (by omega)

theorem down {f : Nat → Nat} {m : Nat} (h : ∀ i, i + 1 < m → f (i + 1) < f i) : ∀ d i, i + d + 1 < m → f (i + d + 1) < f i
  | 0, i, hi => h i hi
  | d + 1, i, hi => Nat.lt_trans (h (i + d + 1) hi) (down h d i (by omega))
/-- The chain has no number twice, and is no longer than the directory. -/
theorem Back.inj {M : Nat → Nat → Bool} {n p g k : Nat} {th L c : List Nat} (h : Bfs M n p th L) (b : Back M th L g c k) : (∀ i j, i < c.length → j < c.length → c.getD i 0 = c.getD j 0 → i = j) ∧ c.length ≤ n ∧ ∀ i, i < c.length → c.getD i 0 < n := by
  obtain ⟨f, f1, f2, f3⟩ := b.at_
  have hlt : ∀ i, i < c.length → c.getD i 0 < n := fun i hi => by rw [(f2 i hi).2]; exact h.lt _ (f2 i hi).1
  have key : ∀ i j, i < j → j < c.length → c.getD i 0 ≠ c.getD j 0 := fun i j hij hj e => by
    rw [(f2 i (by omega)).2, (f2 j hj).2] at e
    have e2 := h.inj _ _ (f2 i (by omega)).1 (f2 j hj).1 e
    obtain ⟨d, rfl⟩ : ∃ d, j = i + d + 1 := ⟨j - i - 1, by omega⟩
    have := down f3 d i hj
    omega
  have hinj : ∀ i j, i < c.length → j < c.length → c.getD i 0 = c.getD j 0 → i = j := fun i j hi hj e => by
    rcases Nat.lt_trichotomy i j with h1 | h1 | h1
    · exact absurd e (key i j h1 hj)
    · exact h1
    · exact absurd e.symm (key j i h1 hi)
  exact ⟨hinj, pigeon n c.length (fun i => c.getD i 0) hlt hinj, hlt⟩

/-- A membership's event. -/
structure Mb where
  t : Nat
  k : Nat
  p : Nat
  g : Nat
def m0 : Mb := ⟨0, 0, 0, 0⟩
structure Dy where
  k : List Nat
  e : List Mb
def kd (d : Dy) (p : Nat) : Nat := d.k.getD p 0
def eg (d : Dy) (j : Nat) : Mb := d.e.getD j m0

/-- An event's fields are right. -/
structure EvOk (d : Dy) (x : Mb) : Prop where
  k : x.k = 1 ∨ x.k = 2
  t : x.t ≤ 1099511627776
  p : x.p < d.k.length
  g : x.g < d.k.length
  gr : kd d x.g = 2
  ne : x.p ≠ x.g
structure Ok (d : Dy) : Prop where
  n : d.k.length ≤ 24
  m : d.e.length ≤ 120
  k : ∀ p, p < d.k.length → 1 ≤ kd d p ∧ kd d p ≤ 3
  e : ∀ j, j < d.e.length → EvOk d (eg d j)
  up : ∀ j, j + 1 < d.e.length → (eg d j).t ≤ (eg d (j + 1)).t

def hitm (x : Mb) (t p q : Nat) : Bool := decide (x.t ≤ t) && x.p == p && x.g == q
/-- Is p directly in q, after the first events? -/
def dmk (d : Dy) (t p q : Nat) : Nat → Bool
  | 0 => false
  | k + 1 => if hitm (eg d k) t p q then (eg d k).k == 1 else dmk d t p q k
def dm (d : Dy) (t p q : Nat) : Bool := dmk d t p q d.e.length
theorem hitm_iff (x : Mb) (t p q : Nat) : hitm x t p q = true ↔ x.t ≤ t ∧ x.p = p ∧ x.g = q := by unfold hitm; simp [and_assoc]

theorem dmk_ok {d : Dy} (h : Ok d) {t p q : Nat} : ∀ k, k ≤ d.e.length → dmk d t p q k = true → p < d.k.length ∧ q < d.k.length ∧ kd d q = 2 ∧ p ≠ q
  | 0, _, hm => by cases hm
  | k + 1, hk, hm => by
    unfold dmk at hm
    by_cases e : hitm (eg d k) t p q = true
    · obtain ⟨-, rfl, rfl⟩ := (hitm_iff _ _ _ _).1 e
      have := h.e k (by omega)
      exact ⟨this.p, this.g, this.gr, this.ne⟩
    · rw [if_neg e] at hm
      exact dmk_ok h k (by omega) hm
theorem dm_ok {d : Dy} (h : Ok d) {t p q : Nat} (hm : dm d t p q = true) : p < d.k.length ∧ q < d.k.length ∧ kd d q = 2 ∧ p ≠ q := dmk_ok h _ (Nat.le_refl _) hm

/-- p is q, or in it. -/
def Rc (d : Dy) (t p q : Nat) : Prop := Reach (dm d t) d.k.length p q
theorem rc_group {d : Dy} (h : Ok d) {t p q : Nat} (hr : Rc d t p q) : q = p ∨ (q < d.k.length ∧ kd d q = 2) := by
  cases hr with
  | here => exact .inl rfl
  | step _ _ hq hm => exact .inr ⟨hq, (dm_ok h hm).2.2.1⟩
theorem reach_mono {M M' : Nat → Nat → Bool} {n p q : Nat} (h : ∀ a b, M a b = true → M' a b = true) (hr : Reach M n p q) : Reach M' n p q := by
  induction hr with
  | here => exact .here
  | step _ hu hq hm ih => exact .step ih hu hq (h _ _ hm)
theorem reach_last {M : Nat → Nat → Bool} {n p q : Nat} (hr : Reach M n p q) (hne : p ≠ q) : ∃ u, Reach M n p u ∧ u < n ∧ q < n ∧ M u q = true := by
  cases hr with
  | here => exact absurd rfl hne
  | step hu h1 h2 hm => exact ⟨_, hu, h1, h2, hm⟩

/-- With one event more. -/
def addm (d : Dy) (x : Mb) : Dy := ⟨d.k, d.e ++ [x]⟩
theorem eg_left {d : Dy} {x : Mb} {j : Nat} (h : j < d.e.length) : eg (addm d x) j = eg d j := by
  unfold eg addm
  rw [List.getD_eq_getElem?_getD, List.getD_eq_getElem?_getD, List.getElem?_append_left h]
theorem eg_end {d : Dy} {x : Mb} : eg (addm d x) d.e.length = x := by
  unfold eg addm
  rw [List.getD_eq_getElem?_getD, List.getElem?_append_right (Nat.le_refl _)]
  simp
theorem addm_len (d : Dy) (x : Mb) : (addm d x).e.length = d.e.length + 1 := by simp [addm]
theorem dmk_left {d : Dy} {x : Mb} (t p q : Nat) : ∀ k, k ≤ d.e.length → dmk (addm d x) t p q k = dmk d t p q k
  | 0, _ => rfl
  | k + 1, hk => by
    unfold dmk
    rw [eg_left (by omega), dmk_left t p q k (by omega)]
theorem dm_add (d : Dy) (x : Mb) (t p q : Nat) : dm (addm d x) t p q = if hitm x t p q then x.k == 1 else dm d t p q := by
  unfold dm
  rw [addm_len, dmk, eg_end, dmk_left t p q _ (Nat.le_refl _)]
theorem Ok.add {d : Dy} {x : Mb} (h : Ok d) (hx : EvOk d x) (hm : d.e.length < 120) (hl : ∀ j, j < d.e.length → (eg d j).t ≤ x.t) : Ok (addm d x) := by
  refine ⟨h.n, by rw [addm_len]; omega, h.k, fun j hj => ?_, fun j hj => ?_⟩
  · rw [addm_len] at hj
    by_cases e : j = d.e.length
    · rw [e, eg_end]; exact ⟨hx.k, hx.t, hx.p, hx.g, hx.gr, hx.ne⟩
    · rw [eg_left (by omega)]
      have := h.e j (by omega)
      exact ⟨this.k, this.t, this.p, this.g, this.gr, this.ne⟩
  · rw [addm_len] at hj
    rw [eg_left (show j < d.e.length by omega)]
    by_cases e : j + 1 = d.e.length
    · rw [e, eg_end]; exact hl j (by omega)
    · rw [eg_left (by omega)]; exact h.up j (by omega)

/-- The time of the last event. -/
def lastT (d : Dy) : Nat := if d.e.length = 0 then 0 else (eg d (d.e.length - 1)).t
theorem le_last {d : Dy} (h : Ok d) {j : Nat} (hj : j < d.e.length) : (eg d j).t ≤ lastT d := by
  have key : ∀ i, j + i < d.e.length → (eg d j).t ≤ (eg d (j + i)).t := by
    intro i
    induction i with
    | zero => intro _; exact Nat.le_refl _
    | succ i ih => intro hi; exact Nat.le_trans (ih (by omega)) (h.up (j + i) hi)
  unfold lastT
  rw [if_neg (by omega)]
  have := key (d.e.length - 1 - j) (by omega)
  rwa [show j + (d.e.length - 1 - j) = d.e.length - 1 by omega] at this
/-- Behind the last event nothing turns. -/
theorem dm_after {d : Dy} (h : Ok d) {t t' p q : Nat} (h1 : lastT d ≤ t) (h2 : lastT d ≤ t') : dm d t p q = dm d t' p q := by
  have key : ∀ k, k ≤ d.e.length → dmk d t p q k = dmk d t' p q k := by
    intro k
    induction k with
    | zero => intro _; rfl
    | succ k ih =>
      intro hk
      have hl := le_last h (show k < d.e.length by omega)
      unfold dmk
      rw [ih (by omega)]
      have e : hitm (eg d k) t p q = hitm (eg d k) t' p q := by
        unfold hitm
        rw [decide_eq_true (show (eg d k).t ≤ t by omega), decide_eq_true (show (eg d k).t ≤ t' by omega)]
      rw [e]
  exact key _ (Nat.le_refl _)
/-- A later event turns nothing at an earlier time. -/
theorem dm_later {d : Dy} {x : Mb} {t p q : Nat} (h : t < x.t) : dm (addm d x) t p q = dm d t p q := by
  rw [dm_add, if_neg]
  rw [hitm_iff]
  omega
/-- A join more takes nobody away. -/
theorem dm_more {d : Dy} {x : Mb} {t p q : Nat} (hk : x.k = 1) (h : dm d t p q = true) : dm (addm d x) t p q = true := by
  rw [dm_add]
  split
  · rw [hk]; rfl
  · exact h

/-- p is in g. -/
def InG (d : Dy) (t p g : Nat) : Prop := p < d.k.length ∧ g < d.k.length ∧ kd d g = 2 ∧ p ≠ g ∧ Rc d t p g
/-- Who is not directly in a group is in it through another one. -/
theorem in_by {d : Dy} (h : Ok d) {t p g : Nat} (hp : p < d.k.length) (hne : p ≠ g) (hn : dm d t p g = false) :
    InG d t p g ↔ ∃ u, u < d.k.length ∧ dm d t u g = true ∧ u ≠ p ∧ InG d t p u := by
  constructor
  · rintro ⟨_, hg, h2, _, hr⟩
    obtain ⟨u, h3, h4, h5, hm⟩ := reach_last hr hne
    have hup : u ≠ p := fun e => by rw [e, hn] at hm; cases hm
    rcases rc_group h (t := t) (p := p) (q := u) h3 with e | ⟨h6, h7⟩
    · exact absurd e hup
    · exact ⟨u, h4, hm, hup, hp, h4, h7, Ne.symm hup, h3⟩
  · rintro ⟨u, hu, hm, _, _, _, _, _, hr⟩
    have := dm_ok h hm
    exact ⟨hp, this.2.1, this.2.2.1, hne, .step hr hu this.2.1 hm⟩
/-- The members of a group are those directly in it, and the members of the groups directly in it. -/
theorem union_iff {d : Dy} (h : Ok d) {t p g : Nat} (hp : p < d.k.length) (hk : kd d p ≠ 2) (hg : g < d.k.length) (h2 : kd d g = 2) :
    Rc d t p g ↔ ∃ u, u < d.k.length ∧ dm d t u g = true ∧ (u = p ∨ kd d u = 2 ∧ Rc d t p u) := by
  have hne : p ≠ g := fun e => hk (e ▸ h2)
  constructor
  · intro hr
    obtain ⟨u, h3, h4, h5, hm⟩ := reach_last hr hne
    rcases rc_group h (t := t) (p := p) (q := u) h3 with e | ⟨h6, h7⟩
    · exact ⟨u, h4, hm, .inl e⟩
    · exact ⟨u, h4, hm, .inr ⟨h7, h3⟩⟩
  · rintro ⟨u, hu, hm, e | ⟨_, hr⟩⟩
    · subst e; exact .step .here hu hg hm
    · exact .step hr hu hg hm
/-- A closed set has all groups of its members. -/
theorem closed_has {M : Nat → Nat → Bool} {n p q : Nat} {S : Nat → Prop} (hs : ∀ a, S a → a < n → ∀ b, b < n → M a b = true → S b) (hp : S p) (hr : Reach M n p q) : S q := by
  induction hr with
  | here => exact hp
  | step _ hu hq hm ih => exact hs _ ih hu _ hq hm

end Go.Proofs.YtahggnlmabdbbaaDoor.Di
