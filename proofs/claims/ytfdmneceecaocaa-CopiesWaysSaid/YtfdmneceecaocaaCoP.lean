import Derived.Test.YtfdmneceecaocaaCoG
namespace Go.Proofs.Ytfdmneceecaocaa.Di
open Go.RowKit
open Go.Proofs.Ytfdmneceecaocaa.Tp
set_option linter.unusedVariables false

def okS (n : Int) (x : Sy) : Prop := x.f < x.u ∧ 0 ≤ x.p ∧ x.p < n
def okB (x y : Sy) : Prop := x.p < y.p ∨ (x.p = y.p ∧ x.u < y.f)
/-- Stays in order. -/
structure Gd (n : Int) (L : List Sy) : Prop where
  one : ∀ j, j < L.length → okS n (sy L j)
  two : ∀ j, j + 1 < L.length → okB (sy L j) (sy L (j + 1))
theorem sy_left {L : List Sy} {x : Sy} {j : Nat} (h : j < L.length) : sy (L ++ [x]) j = sy L j := by
  unfold sy
  rw [List.getD_eq_getElem?_getD, List.getD_eq_getElem?_getD, List.getElem?_append_left h]
theorem sy_end {L : List Sy} {x : Sy} : sy (L ++ [x]) L.length = x := by
  unfold sy
  rw [List.getD_eq_getElem?_getD, List.getElem?_append_right (Nat.le_refl _)]
  simp
theorem Gd.nil (n : Int) : Gd n [] := ⟨fun j h => absurd h (by simp), fun j h => absurd h (by simp)⟩
theorem Gd.snoc {n : Int} {L : List Sy} {x : Sy} (h : Gd n L) (h1 : okS n x) (h2 : ∀ L' y, L = L' ++ [y] → okB y x) : Gd n (L ++ [x]) := by
  refine ⟨fun j hj => ?_, fun j hj => ?_⟩
  · simp at hj
    by_cases e : j = L.length
    · rw [e, sy_end]; exact h1
    · rw [sy_left (by omega)]; exact h.one j (by omega)
  · simp at hj
    by_cases e : j + 1 = L.length
    · obtain ⟨L', y, e2⟩ := list_snoc (by omega : 0 < L.length)
      rw [e, sy_end, sy_left (by omega)]
      have e3 : L'.length = j := by have := congrArg List.length e2; simp at this; omega
      rw [e2, ← e3, sy_end]
      exact h2 L' y e2
    · rw [sy_left (by omega), sy_left (by omega)]; exact h.two j (by omega)
theorem Gd.front {n : Int} {L : List Sy} {x : Sy} (h : Gd n (L ++ [x])) : Gd n L ∧ okS n x ∧ ∀ L' y, L = L' ++ [y] → okB y x := by
  refine ⟨⟨fun j hj => ?_, fun j hj => ?_⟩, ?_, fun L' y e => ?_⟩
  · have := h.one j (by simp; omega); rwa [sy_left hj] at this
  · have := h.two j (by simp; omega); rwa [sy_left (by omega), sy_left hj] at this
  · have := h.one L.length (by simp); rwa [sy_end] at this
  · have hl : L.length = L'.length + 1 := by rw [e]; simp
    have := h.two L'.length (by simp; omega)
    rw [sy_left (by omega), ← hl, sy_end, e, sy_end] at this
    exact this
theorem snoc_inj {L L' : List Sy} {x y : Sy} (h : L ++ [x] = L' ++ [y]) : L = L' ∧ x = y := by
  have := List.append_inj' h rfl
  exact ⟨this.1, by simpa using this.2⟩
/-- How it stands behind the first i times of a place. -/
structure SInv (n p : Int) (q : Nat → Bool) (T : List Nat) (i : Nat) (L : List Sy) : Prop where
  gd : Gd n L
  opn : bf q i = true → 0 < i ∧ ∃ L' x, L = L' ++ [x] ∧ x.p = p ∧ x.f ≤ ((T.getD (i - 1) 0 : Nat) : Int)
  shut : bf q i = false → ∀ L' x, L = L' ++ [x] → x.p < p ∨ (x.p = p ∧ 0 < i ∧ x.u ≤ ((T.getD (i - 1) 0 : Nat) : Int))
theorem SInv.step {n p : Int} {q : Nat → Bool} {T : List Nat} (hp : 0 ≤ p ∧ p < n) (hT : ∀ i, i + 1 < T.length → T.getD i 0 < T.getD (i + 1) 0) (hM : ∀ i, i < T.length → T.getD i 0 ≤ 1099511627776) (L0 : List Sy) {i : Nat} (hi : i < T.length)
    (h : SInv n p q T i (sI L0 p q T i)) : SInv n p q T (i + 1) (sI L0 p q T (i + 1)) := by
  obtain ⟨h1, h2, h3⟩ := h
  have hM' := hM i hi
  have hasc : 0 < i → T.getD (i - 1) 0 < T.getD i 0 := fun h0 => by
    have := hT (i - 1) (by omega)
    rwa [show i - 1 + 1 = i by omega] at this
  rw [sI_succ]
  generalize sI L0 p q T i = L at *
  cases hq : q i with
  | true =>
    cases hb : bf q i with
    | true =>
      obtain ⟨h0, L', x, e, e1, e2⟩ := h2 hb
      have := hasc h0
      exact ⟨h1, fun _ => ⟨by omega, L', x, e, e1, by show x.f ≤ ((T.getD i 0 : Nat) : Int); omega⟩, fun h => (by rw [bf_succ, hq] at h; cases h)⟩
    | false =>
      refine ⟨h1.snoc ⟨by show ((T.getD i 0 : Nat) : Int) < 1099511627777; omega, hp⟩ (fun L' y e => ?_), fun _ => ⟨by omega, L, _, rfl, rfl, by show ((T.getD i 0 : Nat) : Int) ≤ ((T.getD i 0 : Nat) : Int); omega⟩, fun h => (by rw [bf_succ, hq] at h; cases h)⟩
      rcases h3 hb L' y e with h4 | ⟨h4, h5, h6⟩
      · exact .inl h4
      · have := hasc h5
        exact .inr ⟨h4, by show y.u < ((T.getD i 0 : Nat) : Int); omega⟩
  | false =>
    cases hb : bf q i with
    | true =>
      obtain ⟨h0, L', x, e, e1, e2⟩ := h2 hb
      have := hasc h0
      subst e
      obtain ⟨g1, g2, g3⟩ := h1.front
      show SInv n p q T (i + 1) (setL (L' ++ [x]) _)
      rw [setL_app]
      refine ⟨g1.snoc ⟨by show x.f < ((T.getD i 0 : Nat) : Int); omega, g2.2⟩ (fun L2 y e => g3 L2 y e), fun h => (by rw [bf_succ, hq] at h; cases h), fun _ L2 y e => ?_⟩
      obtain ⟨-, e4⟩ := snoc_inj e
      subst e4
      exact .inr ⟨e1, by omega, by show ((T.getD i 0 : Nat) : Int) ≤ ((T.getD i 0 : Nat) : Int); omega⟩
    | false =>
      refine ⟨h1, fun h => (by rw [bf_succ, hq] at h; cases h), fun _ L' x e => ?_⟩
      rcases h3 hb L' x e with h4 | ⟨h4, h5, h6⟩
      · exact .inl h4
      · have := hasc h5
        exact .inr ⟨h4, by omega, by show x.u ≤ ((T.getD i 0 : Nat) : Int); omega⟩
theorem sI_inv {n p : Int} {q : Nat → Bool} {T : List Nat} (hp : 0 ≤ p ∧ p < n) (hT : ∀ i, i + 1 < T.length → T.getD i 0 < T.getD (i + 1) 0) (hM : ∀ i, i < T.length → T.getD i 0 ≤ 1099511627776) (L0 : List Sy) (h0 : Gd n L0) (h1 : ∀ L' x, L0 = L' ++ [x] → x.p < p) :
    ∀ i, i ≤ T.length → SInv n p q T i (sI L0 p q T i)
  | 0, _ => ⟨h0, fun h => (by cases h), fun _ L' x e => .inl (h1 L' x e)⟩
  | i + 1, hi => SInv.step hp hT hM L0 (by omega) (sI_inv hp hT hM L0 h0 h1 i (by omega))
theorem sA_gd {n : Nat} {q : Nat → Nat → Bool} {T : List Nat} (hT : ∀ i, i + 1 < T.length → T.getD i 0 < T.getD (i + 1) 0) (hM : ∀ i, i < T.length → T.getD i 0 ≤ 1099511627776) :
    ∀ p, p ≤ n → Gd (n : Int) (sA q T p) ∧ ∀ L' x, sA q T p = L' ++ [x] → x.p < (p : Int)
  | 0, _ => ⟨Gd.nil _, fun L' x e => by simp [sA] at e⟩
  | p + 1, hp => by
    obtain ⟨g1, g2⟩ := sA_gd (n := n) (q := q) hT hM p (by omega)
    have h := sI_inv (n := (n : Int)) (q := q p) (p := (p : Int)) ⟨by omega, by omega⟩ hT hM (sA q T p) g1 g2 T.length (Nat.le_refl _)
    refine ⟨h.gd, fun L' x e => ?_⟩
    cases hb : bf (q p) T.length with
    | true =>
      obtain ⟨-, L2, y, e2, e3, -⟩ := h.opn hb
      have e4 : sA q T (p + 1) = L2 ++ [y] := e2
      obtain ⟨-, e5⟩ := snoc_inj (e4.symm.trans e)
      subst e5
      omega
    | false =>
      rcases h.shut hb L' x e with h4 | ⟨h4, -⟩
      · omega
      · omega
theorem dk_asc (l : List Nat) (hs : ∀ i j, i ≤ j → j < l.length → l.getD i 0 ≤ l.getD j 0) : ∀ k, k ≤ l.length → (dk l k).Pairwise (· < ·) ∧ ∀ r ∈ dk l k, r ≤ l.getD (k - 1) 0
  | 0, _ => ⟨List.Pairwise.nil, fun r h => by cases h⟩
  | k + 1, hk => by
    obtain ⟨h1, h2⟩ := dk_asc l hs k (by omega)
    rw [dk]
    split
    · rename_i hc
      refine ⟨?_, fun r hr => ?_⟩
      · rw [List.pairwise_append]
        refine ⟨h1, List.pairwise_singleton _ _, fun a ha b hb => ?_⟩
        rw [List.mem_singleton] at hb
        subst hb
        have h3 := h2 a ha
        by_cases hz : k = 0
        · subst hz; cases ha
        · have h4 := hs (k - 1) k (by omega) (by omega)
          rcases hc with h5 | h5
          · exact absurd h5 hz
          · omega
      · rw [List.mem_append, List.mem_singleton] at hr
        show r ≤ l.getD k 0
        rcases hr with h3 | h3
        · have h4 := h2 r h3
          have h5 := hs (k - 1) k (by omega) (by omega)
          omega
        · omega
    · rename_i hc
      refine ⟨h1, fun r hr => ?_⟩
      have h4 := h2 r hr
      have h5 := hs (k - 1) k (by omega) (by omega)
      show r ≤ l.getD k 0
      omega
theorem tms_asc {a : Es} (h : Eok a) : (∀ i, i + 1 < (tms a).length → (tms a).getD i 0 < (tms a).getD (i + 1) 0) ∧ ∀ i, i < (tms a).length → (tms a).getD i 0 ≤ 1099511627776 := by
  have hs : ∀ i j, i ≤ j → j < (tl a.e).length → (tl a.e).getD i 0 ≤ (tl a.e).getD j 0 := fun i j h1 h2 => by
    rw [tl_len] at h2
    rw [tl_at _ (by omega), tl_at _ h2]
    obtain ⟨d, rfl⟩ : ∃ d, j = i + d := ⟨j - i, by omega⟩
    have := h.mono d i h2
    omega
  have hp := (dk_asc (tl a.e) hs a.e.length (by rw [tl_len]; exact Nat.le_refl _)).1
  rw [← tms_ok h] at hp
  refine ⟨fun i hi => ?_, fun i hi => ?_⟩
  · rw [List.getD_eq_getElem?_getD, List.getD_eq_getElem?_getD, List.getElem?_eq_getElem (by omega), List.getElem?_eq_getElem hi]
    exact List.pairwise_iff_getElem.1 hp i (i + 1) (by omega) hi (by omega)
  · have hm : (tms a).getD i 0 ∈ tms a := by
      rw [List.getD_eq_getElem?_getD, List.getElem?_eq_getElem hi]
      exact List.getElem_mem hi
    obtain ⟨j, hj, e⟩ := (mem_tms h _).1 hm
    have := (h.e j hj).2.1
    omega
theorem stL_gd {a : Es} (h : Eok a) (c : Int) (n : Nat) : Gd (n : Int) (stL a c n) := (sA_gd (tms_asc h).1 (tms_asc h).2 n (Nat.le_refl _)).1
theorem stL_len (a : Es) (c : Int) {n : Nat} (hn : n ≤ 16) : (stL a c n).length ≤ 1920 :=
  Nat.le_trans (sA_len _ _ _) (Nat.le_trans (Nat.mul_le_mul hn (tms_len a)) (by omega))

end Go.Proofs.Ytfdmneceecaocaa.Di
