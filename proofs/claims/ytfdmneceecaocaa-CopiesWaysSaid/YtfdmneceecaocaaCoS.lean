import Derived.Test.YtfdmneceecaocaaCoP
import Derived.Test.YtfdmneceecaocaaCoQ
namespace Go.Proofs.Ytfdmneceecaocaa.Di
set_option linter.unusedVariables false

/-- Does a stay of a place hold a time? -/
def inS (L : List Sy) (p t : Int) : Prop := ∃ j, j < L.length ∧ (sy L j).p = p ∧ (sy L j).f ≤ t ∧ t < (sy L j).u
theorem inS_snoc (L : List Sy) (x : Sy) (p t : Int) : inS (L ++ [x]) p t ↔ inS L p t ∨ (x.p = p ∧ x.f ≤ t ∧ t < x.u) := by
  constructor
  · rintro ⟨j, hj, h⟩
    simp at hj
    by_cases e : j = L.length
    · rw [e, sy_end] at h; exact .inr h
    · rw [sy_left (by omega)] at h; exact .inl ⟨j, by omega, h⟩
  · rintro (⟨j, hj, h⟩ | h)
    · exact ⟨j, by simp; omega, by rw [sy_left hj]; exact h⟩
    · exact ⟨L.length, by simp, by rw [sy_end]; exact h⟩
/-- What q says at the last time up to t. -/
def atB (q : Nat → Bool) (T : List Nat) (t : Int) : Nat → Bool
  | 0 => false
  | i + 1 => if ((T.getD i 0 : Nat) : Int) ≤ t then q i else atB q T t i
theorem atB_is (q : Nat → Bool) (T : List Nat) (t : Int) : ∀ i, ((∀ j, j < i → t < ((T.getD j 0 : Nat) : Int)) ∧ atB q T t i = false) ∨ ∃ j, j < i ∧ ((T.getD j 0 : Nat) : Int) ≤ t ∧ (∀ r, j < r → r < i → t < ((T.getD r 0 : Nat) : Int)) ∧ atB q T t i = q j
  | 0 => .inl ⟨fun j h => absurd h (by omega), rfl⟩
  | i + 1 => by
    rw [atB]
    by_cases h : ((T.getD i 0 : Nat) : Int) ≤ t
    · rw [if_pos h]
      exact .inr ⟨i, by omega, h, fun r h1 h2 => absurd h1 (by omega), rfl⟩
    · rw [if_neg h]
      rcases atB_is q T t i with ⟨h1, h2⟩ | ⟨j, h1, h2, h3, h4⟩
      · exact .inl ⟨fun j hj => if e : j = i then by rw [e]; omega else h1 j (by omega), h2⟩
      · exact .inr ⟨j, by omega, h2, fun r h5 h6 => if e : r = i then by rw [e]; omega else h3 r h5 (by omega), h4⟩
/-- How the stays stand behind the first i times of a place, as to what they hold. -/
structure JInv (p : Int) (q : Nat → Bool) (T : List Nat) (L0 : List Sy) (i : Nat) (L : List Sy) : Prop where
  old : ∀ s t, s < p → (inS L s t ↔ inS L0 s t)
  now : ∀ t, t ≤ 1099511627776 → (inS L p t ↔ atB q T t i = true)
  le : ∀ j, j < L.length → (sy L j).p ≤ p
  opn : bf q i = true → 0 < i ∧ ∃ L' x, L = L' ++ [x] ∧ x.p = p ∧ x.u = 1099511627777 ∧ x.f ≤ ((T.getD (i - 1) 0 : Nat) : Int) ∧ ∀ j, j < L'.length → (sy L' j).p = p → (sy L' j).u ≤ x.f
  shut : bf q i = false → ∀ j, j < L.length → (sy L j).p = p → 0 < i ∧ (sy L j).u ≤ ((T.getD (i - 1) 0 : Nat) : Int)
theorem JInv.step {p : Int} {q : Nat → Bool} {T : List Nat} (hT : ∀ i, i + 1 < T.length → T.getD i 0 < T.getD (i + 1) 0) (hM : ∀ i, i < T.length → T.getD i 0 ≤ 1099511627776) (L0 : List Sy) {i : Nat} (hi : i < T.length)
    (h : JInv p q T L0 i (sI L0 p q T i)) : JInv p q T L0 (i + 1) (sI L0 p q T (i + 1)) := by
  obtain ⟨h0, h1, hle, h2, h3⟩ := h
  have hM' := hM i hi
  have hasc : 0 < i → T.getD (i - 1) 0 < T.getD i 0 := fun h0 => by
    have := hT (i - 1) (by omega)
    rwa [show i - 1 + 1 = i by omega] at this
  have hat : ∀ t, atB q T t (i + 1) = if ((T.getD i 0 : Nat) : Int) ≤ t then q i else atB q T t i := fun t => rfl
  rw [sI_succ]
  generalize sI L0 p q T i = L at *
  generalize hti : T.getD i 0 = ti at *
  generalize htp : T.getD (i - 1) 0 = tp at *
  have hib : ∀ {L : List Sy} {s t : Int}, inS L s t ↔ inS L s t := Iff.rfl
  cases hq : q i with
  | true =>
    cases hb : bf q i with
    | true =>
      obtain ⟨hi0, L', x, rfl, e1, e2, e3, e4⟩ := h2 hb
      have := hasc hi0
      rw [show (true && !true) = false from rfl, if_neg (by decide), if_neg (by decide)]
      refine ⟨h0, fun t ht => ?_, hle, fun _ => ⟨by omega, L', x, rfl, e1, e2, ?_, e4⟩, fun h => (by rw [bf_succ, hq] at h; cases h)⟩
      · rw [hat t]
        by_cases h : (ti : Int) ≤ t
        · rw [if_pos h, hq, inS_snoc]
          exact ⟨fun _ => rfl, fun _ => .inr ⟨e1, by omega, by omega⟩⟩
        · rw [if_neg h]; exact h1 t ht
      · rw [show i + 1 - 1 = i by omega, hti]; omega
    | false =>
      have h4 := h3 hb
      rw [show (true && !false) = true from rfl, if_pos rfl]
      refine ⟨fun s t hs => ?_, fun t ht => ?_, fun j hj => ?_, fun _ => ⟨by omega, L, _, rfl, rfl, rfl, ?_, fun j hj he => ?_⟩, fun h => (by rw [bf_succ, hq] at h; cases h)⟩
      · rw [inS_snoc, h0 s t hs]
        exact ⟨fun h => h.elim id (fun h => by have := h.1; simp only at this; omega), .inl⟩
      · rw [hat t, inS_snoc, h1 t ht]
        by_cases h : (ti : Int) ≤ t
        · rw [if_pos h, hq]
          exact ⟨fun _ => rfl, fun _ => .inr ⟨rfl, h, by simp only; omega⟩⟩
        · rw [if_neg h]
          exact ⟨fun h => h.elim id (fun h => by have := h.2.1; simp only at this; omega), .inl⟩
      · simp at hj
        by_cases e : j = L.length
        · rw [e, sy_end]; exact Int.le_refl _
        · rw [sy_left (by omega)]; exact hle j (by omega)
      · rw [show i + 1 - 1 = i by omega, hti]; exact Int.le_refl _
      · obtain ⟨a1, a2⟩ := h4 j hj he
        have := hasc a1
        show _ ≤ (ti : Int)
        omega
  | false =>
    cases hb : bf q i with
    | true =>
      obtain ⟨hi0, L', x, rfl, e1, e2, e3, e4⟩ := h2 hb
      have := hasc hi0
      rw [show (false && !true) = false from rfl, if_neg (by decide), show (true && !false) = true from rfl, if_pos rfl, setL_app]
      refine ⟨fun s t hs => ?_, fun t ht => ?_, fun j hj => ?_, fun h => (by rw [bf_succ, hq] at h; cases h), fun _ j hj he => ⟨by omega, ?_⟩⟩
      · rw [← h0 s t hs, inS_snoc, inS_snoc]
        exact ⟨fun h => h.elim .inl (fun h => by have := h.1; simp only at this; omega), fun h => h.elim .inl (fun h => by omega)⟩
      · rw [hat t, inS_snoc]
        by_cases h : (ti : Int) ≤ t
        · rw [if_pos h, hq]
          refine ⟨fun h5 => ?_, fun h => by cases h⟩
          rcases h5 with ⟨j, hj, a1, a2, a3⟩ | ⟨a1, a2, a3⟩
          · have := e4 j hj a1; omega
          · simp only at a3; omega
        · rw [if_neg h, ← h1 t ht, inS_snoc]
          exact ⟨fun h => h.elim .inl (fun h => .inr ⟨e1, h.2.1, by omega⟩), fun h => h.elim .inl (fun h5 => .inr ⟨e1, h5.2.1, by simp only; omega⟩)⟩
      · simp at hj
        by_cases e : j = L'.length
        · rw [e, sy_end]; simp only; omega
        · rw [sy_left (by omega)]; have := hle j (by simp; omega); rwa [sy_left (by omega)] at this
      · rw [show i + 1 - 1 = i by omega, hti]
        simp at hj
        by_cases e : j = L'.length
        · rw [e, sy_end]; exact Int.le_refl _
        · rw [sy_left (by omega)] at he ⊢; have := e4 j (by omega) he; omega
    | false =>
      have h4 := h3 hb
      rw [show (false && !false) = false from rfl, if_neg (by decide), if_neg (by decide)]
      refine ⟨h0, fun t ht => ?_, hle, fun h => (by rw [bf_succ, hq] at h; cases h), fun _ j hj he => ⟨by omega, ?_⟩⟩
      · rw [hat t]
        by_cases h : (ti : Int) ≤ t
        · rw [if_pos h, hq]
          refine ⟨fun h5 => ?_, fun h => by cases h⟩
          obtain ⟨j, hj, a1, a2, a3⟩ := h5
          obtain ⟨a4, a5⟩ := h4 j hj a1
          have := hasc a4
          omega
        · rw [if_neg h]; exact h1 t ht
      · obtain ⟨a4, a5⟩ := h4 j hj he
        have := hasc a4
        rw [show i + 1 - 1 = i by omega, hti]; omega
theorem sI_j {p : Int} {q : Nat → Bool} {T : List Nat} (hT : ∀ i, i + 1 < T.length → T.getD i 0 < T.getD (i + 1) 0) (hM : ∀ i, i < T.length → T.getD i 0 ≤ 1099511627776) (L0 : List Sy) (h1 : ∀ j, j < L0.length → (sy L0 j).p < p) :
    ∀ i, i ≤ T.length → JInv p q T L0 i (sI L0 p q T i)
  | 0, _ => show JInv p q T L0 0 L0 from ⟨fun s t hs => Iff.rfl, fun t ht => ⟨fun ⟨j, hj, a1, _⟩ => by have := h1 j hj; omega, fun h => by cases h⟩, fun j hj => Int.le_of_lt (h1 j hj), fun h => (by cases h), fun _ j hj he => by have := h1 j hj; omega⟩
  | i + 1, hi => JInv.step hT hM L0 (by omega) (sI_j hT hM L0 h1 i (by omega))
theorem sA_j {q : Nat → Nat → Bool} {T : List Nat} (hT : ∀ i, i + 1 < T.length → T.getD i 0 < T.getD (i + 1) 0) (hM : ∀ i, i < T.length → T.getD i 0 ≤ 1099511627776) :
    ∀ P, (∀ j, j < (sA q T P).length → (sy (sA q T P) j).p < (P : Int)) ∧ ∀ p t, p < P → t ≤ 1099511627776 → (inS (sA q T P) (p : Int) t ↔ atB (q p) T t T.length = true)
  | 0 => ⟨fun j h => absurd h (by simp [sA]), fun p t h => absurd h (by omega)⟩
  | P + 1 => by
    obtain ⟨g1, g2⟩ := sA_j (q := q) hT hM P
    have h := sI_j (q := q P) hT hM (sA q T P) g1 T.length (Nat.le_refl _)
    refine ⟨fun j hj => ?_, fun p t hp ht => ?_⟩
    · have := h.le j hj
      show (sy (sI (sA q T P) P (q P) T T.length) j).p < _
      omega
    · by_cases e : p = P
      · rw [e]; exact h.now t ht
      · rw [← g2 p t (by omega) ht]; exact h.old p t (by omega)
theorem wy_cond (l : List Ac) (c s t : Int) : ∀ k, (∀ j, j < k → (t < (ag l j).t ↔ s < (ag l j).t)) → wy l c t k = wy l c s k
  | 0, _ => rfl
  | k + 1, h => by
    rw [wy, wy, wy_cond l c s t k (fun j hj => h j (by omega))]
    by_cases e : t < (ag l k).t
    · rw [if_pos e, if_pos ((h k (by omega)).1 e)]
    · rw [if_neg e, if_neg (fun e2 => e ((h k (by omega)).2 e2))]
/-- A content is in a place exactly in its stays. -/
theorem stL_in {a : Es} (h : Eok a) (c : Int) {n p : Nat} (hp : p < n) (t : Int) (ht : t ≤ 1099511627776) : inS (stL a c n) (p : Int) t ↔ wB a c t p = true := by
  obtain ⟨hT, hM⟩ := tms_asc h
  show inS (sA (wq a c (tms a)) (tms a) n) _ _ ↔ _
  rw [(sA_j hT hM n).2 p t hp ht]
  have hlt : ∀ d j, j + d < (tms a).length → (tms a).getD j 0 ≤ (tms a).getD (j + d) 0 := fun d => by
    induction d with
    | zero => intro j _; exact Nat.le_refl _
    | succ d ih => intro j hj; have h1 := ih j (by omega); have h2 := hT (j + d) (by omega); rw [show j + (d + 1) = j + d + 1 by omega]; omega
  have hmem : ∀ j, j < a.e.length → ∃ r, r < (tms a).length ∧ (ag a.e j).t = (((tms a).getD r 0 : Nat) : Int) := fun j hj => by
    have h0 := (h.e j hj).1
    have hm : (ag a.e j).t.toNat ∈ tms a := (mem_tms h _).2 ⟨j, hj, by omega⟩
    obtain ⟨r, hr, he⟩ := List.getElem_of_mem hm
    exact ⟨r, hr, by rw [List.getD_eq_getElem?_getD, List.getElem?_eq_getElem hr, Option.getD_some, he]; omega⟩
  rcases atB_is (wq a c (tms a) p) (tms a) t (tms a).length with ⟨h1, h2⟩ | ⟨j, h1, h2, h3, h4⟩
  · rw [h2]
    have hw : wyA a.e c t (p : Int) = [] := by
      unfold wyA
      have := wy_skip a.e c t 0 a.e.length (fun j _ hj => by
        obtain ⟨r, hr, he⟩ := hmem j (by omega)
        rw [he]; exact h1 r hr)
      rw [Nat.zero_add] at this
      rw [this]
      rfl
    rw [wB_zero (by rw [hw]; rfl)]
  · rw [h4]
    have hw : wq a c (tms a) p j = wB a c t p := by
      unfold wq wB wyA
      rw [wy_cond a.e c (((tms a).getD j 0 : Nat) : Int) t a.e.length (fun r hr => ?_)]
      obtain ⟨s, hs, he⟩ := hmem r hr
      rw [he]
      by_cases e : s ≤ j
      · have := hlt (j - s) s (by omega)
        rw [show s + (j - s) = j by omega] at this
        constructor <;> intro h9 <;> omega
      · have := h3 s (by omega) hs
        have h5 := hlt (s - j - 1) (j + 1) (by omega)
        rw [show j + 1 + (s - j - 1) = s by omega] at h5
        have h6 := hT j (by omega)
        constructor <;> intro h9 <;> omega
    rw [hw]
/-- A way of a content to a place, among the first k events. -/
structure IsW (l : List Ac) (c t : Int) (k : Nat) (q : Int) (L : List Nat) : Prop where
  asc : ∀ i, i + 1 < L.length → L.getD i 0 < L.getD (i + 1) 0
  lt : ∀ i, i < L.length → L.getD i 0 < k ∧ (ag l (L.getD i 0)).t ≤ t
  put : (ag l (L.getD 0 0)).k = 5 ∧ (ag l (L.getD 0 0)).c = c
  cpy : ∀ i, i + 1 < L.length → (ag l (L.getD (i + 1) 0)).k = 7 ∧ (ag l (L.getD (i + 1) 0)).f = (ag l (L.getD i 0)).p
  fin : (ag l (L.getD (L.length - 1) 0)).p = q
  no : ∀ i, i < L.length → ∀ j, L.getD i 0 < j → (i + 1 < L.length → j < L.getD (i + 1) 0) → j < k → (ag l j).t ≤ t → ¬ ((ag l j).k = 6 ∧ (ag l j).c = c ∧ (ag l j).p = (ag l (L.getD i 0)).p)
theorem getD_left {L : List Nat} {x i : Nat} (h : i < L.length) : (L ++ [x]).getD i 0 = L.getD i 0 := by
  rw [List.getD_eq_getElem?_getD, List.getD_eq_getElem?_getD, List.getElem?_append_left h]
theorem getD_end {L : List Nat} {x : Nat} : (L ++ [x]).getD L.length 0 = x := by
  rw [List.getD_eq_getElem?_getD, List.getElem?_append_right (Nat.le_refl _)]
  simp
theorem IsW.keep {l : List Ac} {c t : Int} {k : Nat} {q : Int} {L : List Nat} (h : IsW l c t k q L) (hl : 0 < L.length) (hk : (ag l k).t ≤ t → ¬ ((ag l k).k = 6 ∧ (ag l k).c = c ∧ (ag l k).p = q)) : IsW l c t (k + 1) q L := by
  refine ⟨h.asc, fun i hi => ⟨by have := (h.lt i hi).1; omega, (h.lt i hi).2⟩, h.put, h.cpy, h.fin, fun i hi j h1 h2 h3 h4 => ?_⟩
  by_cases e : j = k
  · by_cases e2 : i + 1 < L.length
    · have := h2 e2; have := (h.lt (i + 1) e2).1; omega
    · have e3 : i = L.length - 1 := by omega
      rw [e3, h.fin]
      rw [e] at h4 ⊢
      exact hk h4
  · exact h.no i hi j h1 h2 (by omega) h4
theorem IsW.snoc {l : List Ac} {c t : Int} {k : Nat} {q f : Int} {L : List Nat} (h : IsW l c t k f L) (hl : 0 < L.length) (h1 : (ag l k).k = 7) (h2 : (ag l k).f = f) (h3 : (ag l k).p = q) (h4 : (ag l k).t ≤ t) : IsW l c t (k + 1) q (L ++ [k]) := by
  have hlast := h.fin
  refine ⟨fun i hi => ?_, fun i hi => ?_, ?_, fun i hi => ?_, ?_, fun i hi j a1 a2 a3 a4 => ?_⟩
  · simp at hi
    by_cases e : i + 1 = L.length
    · rw [e, getD_end, getD_left (by omega)]; exact (h.lt i (by omega)).1
    · rw [getD_left (by omega), getD_left (by omega)]; exact h.asc i (by omega)
  · simp at hi
    by_cases e : i = L.length
    · rw [e, getD_end]; exact ⟨by omega, h4⟩
    · rw [getD_left (by omega)]; exact ⟨by have := (h.lt i (by omega)).1; omega, (h.lt i (by omega)).2⟩
  · rw [getD_left hl]; exact h.put
  · simp at hi
    by_cases e : i + 1 = L.length
    · rw [e, getD_end, getD_left (by omega), show i = L.length - 1 by omega, hlast]; exact ⟨h1, h2⟩
    · rw [getD_left (by omega), getD_left (by omega)]; exact h.cpy i (by omega)
  · rw [show (L ++ [k]).length - 1 = L.length by simp, getD_end]; exact h3
  · simp at hi
    by_cases e : i = L.length
    · rw [e, getD_end] at a1; omega
    · rw [getD_left (by omega)] at a1 ⊢
      by_cases e2 : i + 1 = L.length
      · have a2' := a2 (by simp; omega)
        rw [e2, getD_end] at a2'
        exact h.no i (by omega) j a1 (fun h => by omega) a2' a4
      · have a2' := a2 (by simp; omega)
        rw [getD_left (by omega)] at a2'
        have := (h.lt (i + 1) (by omega)).1
        exact h.no i (by omega) j a1 (fun h => a2') (by omega) a4
/-- What is followed is a way. -/
theorem wy_is (l : List Ac) (c t : Int) : ∀ k q, wy l c t k q ≠ [] → IsW l c t k q (wy l c t k q)
  | 0, q, h => absurd rfl h
  | k + 1, q, h => by
    have ih := wy_is l c t k
    revert h
    rw [wy]
    by_cases e : t < (ag l k).t
    · rw [if_pos e]
      intro h
      exact (ih q h).keep (List.length_pos_iff.2 h) (fun h => by omega)
    · rw [if_neg e]
      unfold wst
      by_cases e5 : (ag l k).k = 5
      · rw [if_pos e5]
        by_cases e1 : (ag l k).c = c ∧ q = (ag l k).p
        · rw [if_pos e1]
          intro _
          refine ⟨fun i hi => absurd hi (by simp), fun i hi => ?_, ⟨e5, e1.1⟩, fun i hi => absurd hi (by simp), e1.2.symm, fun i hi j a1 a2 a3 a4 => ?_⟩
          · obtain rfl : i = 0 := by simpa using hi
            exact ⟨by show k < k + 1; omega, by show (ag l k).t ≤ t; omega⟩
          · obtain rfl : i = 0 := by simpa using hi
            have a1 : k < j := a1
            omega
        · rw [if_neg e1]
          intro h
          exact (ih q h).keep (List.length_pos_iff.2 h) (fun _ h => by omega)
      · rw [if_neg e5]
        by_cases e6 : (ag l k).k = 6
        · rw [if_pos e6]
          by_cases e1 : (ag l k).c = c ∧ q = (ag l k).p
          · rw [if_pos e1]; intro h; exact absurd rfl h
          · rw [if_neg e1]
            intro h
            exact (ih q h).keep (List.length_pos_iff.2 h) (fun _ h => e1 ⟨h.2.1, h.2.2.symm⟩)
        · rw [if_neg e6]
          by_cases e7 : (ag l k).k = 7
          · rw [if_pos e7]
            by_cases e1 : q = (ag l k).p ∧ wy l c t k (ag l k).f ≠ [] ∧ wy l c t k q = []
            · rw [if_pos e1]
              intro _
              exact (ih _ e1.2.1).snoc (List.length_pos_iff.2 e1.2.1) e7 rfl e1.1.symm (by omega)
            · rw [if_neg e1]
              intro h
              exact (ih q h).keep (List.length_pos_iff.2 h) (fun _ h => by omega)
          · rw [if_neg e7]
            intro h
            exact (ih q h).keep (List.length_pos_iff.2 h) (fun _ h => by omega)

end Go.Proofs.Ytfdmneceecaocaa.Di
