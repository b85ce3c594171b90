import Derived.Test.YtlmpbfijgnkpkaaDiMath
import Derived.Test.YtlmpbfijgnkpkaaDiAny
namespace Go.Proofs.Ytlmpbfijgnkpkaa.Di
set_option linter.unusedVariables false

/-- A steward's event. -/
structure Sw where
  t : Nat
  s : Nat
  w : Int
def s0 : Sw := ⟨0, 0, 0⟩
def sg (l : List Sw) (j : Nat) : Sw := l.getD j s0
def swB (x : Sw) (p t : Int) : Bool := (x.s : Int) == p && decide ((x.t : Int) ≤ t)
def swN (l : List Sw) (p t : Int) : Nat → Int
  | 0 => -1
  | k + 1 => if swB (sg l k) p t then (sg l k).w else swN l p t k
def stw (l : List Sw) (p t : Int) : Int := swN l p t l.length

theorem sg_left {l : List Sw} {x : Sw} {j : Nat} (h : j < l.length) : sg (l ++ [x]) j = sg l j := by
  unfold sg
  rw [List.getD_eq_getElem?_getD, List.getD_eq_getElem?_getD, List.getElem?_append_left h]
theorem sg_end {l : List Sw} {x : Sw} : sg (l ++ [x]) l.length = x := by
  unfold sg
  rw [List.getD_eq_getElem?_getD, List.getElem?_append_right (Nat.le_refl _)]
  simp
theorem swN_snoc (l : List Sw) (x : Sw) (p t : Int) : ∀ k, k ≤ l.length → swN (l ++ [x]) p t k = swN l p t k
  | 0, _ => rfl
  | k + 1, h => by rw [swN, swN, sg_left (by omega), swN_snoc l x p t k (by omega)]
theorem stw_snoc (l : List Sw) (x : Sw) (p t : Int) : stw (l ++ [x]) p t = if swB x p t then x.w else stw l p t := by
  unfold stw
  rw [List.length_append, List.length_singleton, swN, sg_end, swN_snoc _ _ _ _ _ (Nat.le_refl _)]

/-- Stewards that fit n principals. -/
structure SOk (n : Nat) (l : List Sw) : Prop where
  m : l.length ≤ 120
  e : ∀ j, j < l.length → (sg l j).t ≤ 1099511627776 ∧ (sg l j).s < n ∧ ((sg l j).w = -1 ∨ (0 ≤ (sg l j).w ∧ (sg l j).w < n ∧ (sg l j).w ≠ (sg l j).s))
  up : ∀ j, j + 1 < l.length → (sg l j).t ≤ (sg l (j + 1)).t
theorem swN_rng {n : Nat} {l : List Sw} (h : SOk n l) (p t : Int) : ∀ k, k ≤ l.length → swN l p t k = -1 ∨ (0 ≤ swN l p t k ∧ swN l p t k < n)
  | 0, _ => .inl rfl
  | k + 1, hk => by
    rw [swN]
    split
    · rcases (h.e k (by omega)).2.2 with e | ⟨a, b, _⟩
      · exact .inl e
      · exact .inr ⟨a, b⟩
    · exact swN_rng h p t k (by omega)
theorem stw_rng {n : Nat} {l : List Sw} (h : SOk n l) (p t : Int) : stw l p t = -1 ∨ (0 ≤ stw l p t ∧ stw l p t < n) := swN_rng h p t _ (Nat.le_refl _)
theorem SOk.add {n : Nat} {l : List Sw} (h : SOk n l) {x : Sw} (hl : l.length < 120) (h1 : x.t ≤ 1099511627776) (h2 : x.s < n) (h3 : x.w = -1 ∨ (0 ≤ x.w ∧ x.w < n ∧ x.w ≠ x.s)) (h4 : ∀ j, j < l.length → (sg l j).t ≤ x.t) : SOk n (l ++ [x]) := by
  refine ⟨by simp; omega, fun j hj => ?_, fun j hj => ?_⟩
  · simp at hj
    by_cases e : j = l.length
    · rw [e, sg_end]; exact ⟨h1, h2, h3⟩
    · rw [sg_left (by omega)]; exact h.e j (by omega)
  · simp at hj
    by_cases e : j + 1 = l.length
    · rw [e, sg_end, sg_left (by omega)]; exact h4 j (by omega)
    · rw [sg_left (by omega), sg_left (by omega)]; exact h.up j (by omega)
theorem SOk.nil (n : Nat) : SOk n [] := ⟨by simp, fun j h => absurd h (by simp), fun j h => absurd h (by simp)⟩
/-- The time of the last event; 0 without. -/
def lastS (l : List Sw) : Nat := if l.length = 0 then 0 else (sg l (l.length - 1)).t
theorem SOk.mono {n : Nat} {l : List Sw} (h : SOk n l) : ∀ d j, j + d < l.length → (sg l j).t ≤ (sg l (j + d)).t
  | 0, j, _ => Nat.le_refl _
  | d + 1, j, hd => Nat.le_trans (h.mono d j (by omega)) (h.up (j + d) (by omega))
theorem SOk.le_last {n : Nat} {l : List Sw} (h : SOk n l) {j : Nat} (hj : j < l.length) : (sg l j).t ≤ lastS l := by
  unfold lastS
  rw [if_neg (by omega)]
  have := h.mono (l.length - 1 - j) j (by omega)
  rwa [show j + (l.length - 1 - j) = l.length - 1 by omega] at this

/-- The way of a principal: itself, who comes behind it, and so on. -/
def wyF (f : Nat → Int) : Nat → List Nat → Int → List Nat
  | 0, out, _ => out
  | k + 1, out, p => if p = -1 ∨ p.toNat ∈ out then out else wyF f k (out ++ [p.toNat]) (f p.toNat)
def wy (f : Nat → Int) (n p : Nat) : List Nat := wyF f (n + 1) [] (p : Int)

theorem nodup_le : ∀ (n : Nat) (l : List Nat), l.Nodup → (∀ x ∈ l, x < n) → l.length ≤ n
  | 0, l, _, h => by
    cases l with
    | nil => simp
    | cons x l => exact absurd (h x (by simp)) (by omega)
  | n + 1, l, hd, h => by
    have h1 := nodup_le n (l.erase n) (hd.erase n) (fun x hx => by
      have hx2 := (hd.mem_erase_iff).1 hx
      have := h x hx2.2
      have := hx2.1
      omega)
    have h2 := List.length_erase (a := n) (l := l)
    split at h2 <;> omega

/-- What a way is. -/
structure Wy (f : Nat → Int) (n p : Nat) (c : List Nat) : Prop where
  ne : 0 < c.length
  hd : c.getD 0 0 = p
  lt : ∀ x ∈ c, x < n
  nd : c.Nodup
  nxt : ∀ i, i + 1 < c.length → f (c.getD i 0) = ((c.getD (i + 1) 0 : Nat) : Int)
  fin : f (c.getD (c.length - 1) 0) = -1 ∨ ∃ x ∈ c, f (c.getD (c.length - 1) 0) = ((x : Nat) : Int)
/-- A way under way. -/
structure Wu (f : Nat → Int) (n p : Nat) (c : List Nat) (q : Int) : Prop where
  rg : q = -1 ∨ (0 ≤ q ∧ q < n)
  hd : c.getD 0 q.toNat = p
  fst : c.length = 0 → q = (p : Int)
  lt : ∀ x ∈ c, x < n
  nd : c.Nodup
  nxt : ∀ i, i + 1 < c.length → f (c.getD i 0) = ((c.getD (i + 1) 0 : Nat) : Int)
  lst : 0 < c.length → f (c.getD (c.length - 1) 0) = q
theorem gw_left {c : List Nat} {x d : Nat} {i : Nat} (h : i < c.length) : (c ++ [x]).getD i d = c.getD i d := by
  rw [List.getD_eq_getElem?_getD, List.getD_eq_getElem?_getD, List.getElem?_append_left h]
theorem gw_end {c : List Nat} {x d : Nat} : (c ++ [x]).getD c.length d = x := by
  rw [List.getD_eq_getElem?_getD, List.getElem?_append_right (Nat.le_refl _)]
  simp
theorem gw_any {c : List Nat} {d e : Nat} {i : Nat} (h : i < c.length) : c.getD i d = c.getD i e := by
  rw [List.getD_eq_getElem?_getD, List.getD_eq_getElem?_getD, List.getElem?_eq_getElem h]; rfl
theorem Wu.next {f : Nat → Int} {n p : Nat} {c : List Nat} {q : Int} (h : Wu f n p c q) (hf : ∀ x, f x = -1 ∨ (0 ≤ f x ∧ f x < n)) (h0 : q ≠ -1) (hm : q.toNat ∉ c) : Wu f n p (c ++ [q.toNat]) (f q.toNat) := by
  have hq := h.rg.resolve_left h0
  refine ⟨hf _, ?_, fun e => by simp at e, fun x hx => ?_, ?_, fun i hi => ?_, fun _ => ?_⟩
  · by_cases e : c.length = 0
    · have : c = [] := List.eq_nil_of_length_eq_zero e
      subst this
      have := h.fst rfl
      simp [this]
    · rw [gw_left (by omega), gw_any (e := q.toNat) (by omega)]; exact h.hd
  · rcases List.mem_append.1 hx with h1 | h1
    · exact h.lt x h1
    · rw [List.mem_singleton] at h1; subst h1; omega
  · rw [List.nodup_append]
    refine ⟨h.nd, by simp, fun a ha b hb => ?_⟩
    rw [List.mem_singleton] at hb
    subst hb
    exact fun e => hm (e ▸ ha)
  · simp at hi
    rw [gw_left (by omega)]
    by_cases e : i + 1 = c.length
    · rw [e, gw_end]
      have := h.lst (by omega)
      rw [show c.length - 1 = i by omega] at this
      rw [this]; omega
    · rw [gw_left (by omega)]; exact h.nxt i (by omega)
  · rw [show (c ++ [q.toNat]).length - 1 = c.length by simp, gw_end]
theorem Wu.len {f : Nat → Int} {n p : Nat} {c : List Nat} {q : Int} (h : Wu f n p c q) : c.length ≤ n := nodup_le n c h.nd h.lt
theorem Wu.done {f : Nat → Int} {n p : Nat} {c : List Nat} {q : Int} (h : Wu f n p c q) (h0 : q = -1 ∨ q.toNat ∈ c) : Wy f n p c := by
  have hne : 0 < c.length := by
    by_cases e : c.length = 0
    · have h1 := h.fst e
      have : c = [] := List.eq_nil_of_length_eq_zero e
      subst this
      rcases h0 with h0 | h0
      · omega
      · cases h0
    · omega
  refine ⟨hne, by rw [gw_any (e := q.toNat) hne]; exact h.hd, h.lt, h.nd, h.nxt, ?_⟩
  rw [h.lst hne]
  by_cases e : q = -1
  · exact .inl e
  · refine .inr ⟨q.toNat, h0.resolve_left e, ?_⟩
    have := h.rg.resolve_left e
    omega
theorem Wu.start {f : Nat → Int} {n p : Nat} (hp : p < n) : Wu f n p [] (p : Int) :=
  ⟨.inr ⟨by omega, by omega⟩, by simp, fun _ => rfl, fun x h => (by cases h), by simp, fun i h => absurd h (by simp), fun h => absurd h (by simp)⟩
theorem Wy.inj {f : Nat → Int} {n p : Nat} {c : List Nat} (h : Wy f n p c) {i j : Nat} (hi : i < c.length) (hj : j < c.length) (e : c.getD i 0 = c.getD j 0) : i = j := by
  rw [List.getD_eq_getElem?_getD, List.getD_eq_getElem?_getD, List.getElem?_eq_getElem hi, List.getElem?_eq_getElem hj] at e
  have e : c[i] = c[j] := e
  have hp := List.pairwise_iff_getElem.1 h.nd
  rcases Nat.lt_trichotomy i j with h1 | h1 | h1
  · exact absurd e (hp i j hi hj h1)
  · exact h1
  · exact absurd e.symm (hp j i hj hi h1)
theorem Wy.same_at {f : Nat → Int} {n p : Nat} {c c' : List Nat} (h : Wy f n p c) (h' : Wy f n p c') : ∀ i, i < c.length → i < c'.length → c.getD i 0 = c'.getD i 0
  | 0, _, _ => by rw [h.hd, h'.hd]
  | i + 1, h1, h2 => by
    have := h.same_at h' i (by omega) (by omega)
    have e1 := h.nxt i h1
    have e2 := h'.nxt i h2
    rw [this, e2] at e1
    omega
theorem Wy.le {f : Nat → Int} {n p : Nat} {c c' : List Nat} (h : Wy f n p c) (h' : Wy f n p c') : c'.length ≤ c.length := by
  by_cases hl : c'.length ≤ c.length
  · exact hl
  · exfalso
    have hn := h.ne
    have e1 := h'.nxt (c.length - 1) (by omega)
    rw [← h.same_at h' (c.length - 1) (by omega) (by omega), show c.length - 1 + 1 = c.length by omega] at e1
    rcases h.fin with e | ⟨x, hx, e⟩
    · omega
    · obtain ⟨j, hj, rfl⟩ := List.getElem_of_mem hx
      have hcj : c.getD j 0 = c[j] := by rw [List.getD_eq_getElem?_getD, List.getElem?_eq_getElem hj]; rfl
      have e3 : c'.getD j 0 = c'.getD c.length 0 := by rw [← h.same_at h' j hj (by omega), hcj]; omega
      have := h'.inj (by omega) (by omega) e3
      omega
theorem Wy.uniq {f : Nat → Int} {n p : Nat} {c c' : List Nat} (h : Wy f n p c) (h' : Wy f n p c') : c = c' := by
  have hl : c.length = c'.length := Nat.le_antisymm (h'.le h) (h.le h')
  apply List.ext_getElem hl
  intro i h1 h2
  have := h.same_at h' i h1 h2
  rw [List.getD_eq_getElem?_getD, List.getD_eq_getElem?_getD, List.getElem?_eq_getElem h1, List.getElem?_eq_getElem h2] at this
  exact this
theorem Wy.congr {f g : Nat → Int} {n p : Nat} {c : List Nat} (h : Wy f n p c) (hfg : ∀ x, x ∈ c → f x = g x) : Wy g n p c := by
  have hm : ∀ i, i < c.length → c.getD i 0 ∈ c := fun i hi => by
    rw [List.getD_eq_getElem?_getD, List.getElem?_eq_getElem hi]; exact List.getElem_mem hi
  have hn := h.ne
  refine ⟨h.ne, h.hd, h.lt, h.nd, fun i hi => by rw [← hfg _ (hm i (by omega))]; exact h.nxt i hi, ?_⟩
  rw [← hfg _ (hm _ (by omega))]
  exact h.fin
end Go.Proofs.Ytlmpbfijgnkpkaa.Di
