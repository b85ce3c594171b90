import Derived.Test.YtgknfkmojhganaaGreatExAll
namespace Go.Proofs.YtgknfkmojhganaaGreat.Di
set_option linter.unusedVariables false
set_option linter.unusedSimpArgs false

/-! Without what happens later. -/
theorem dm_cutG {d : Dy} {m t : Nat} (hm : m ≤ d.e.length) (h : ∀ j, m ≤ j → j < d.e.length → t < (eg d j).t) : dm (cutD d m) t = dm d t := by
  funext p q
  unfold dm
  have hl : (cutD d m).e.length = m := by show (d.e.take m).length = m; rw [List.length_take]; omega
  rw [hl, dmk_cut t p q m (Nat.le_refl _)]
  obtain ⟨i, hi⟩ : ∃ i, d.e.length = m + i := ⟨d.e.length - m, by omega⟩
  rw [hi, dmk_skip t p q m i (fun j h1 h2 => h j h1 (by omega))]
theorem upB_cutG {d : Dy} {m t : Nat} (hm : m ≤ d.e.length) (h : ∀ j, m ≤ j → j < d.e.length → t < (eg d j).t) : upB (cutD d m) t = upB d t := by
  funext p q
  have e : Rc (cutD d m) t p q ↔ Rc d t p q := by
    show Reach (dm (cutD d m) t) d.k.length p q ↔ Reach (dm d t) d.k.length p q
    rw [dm_cutG hm h]
  exact Bool.eq_iff_iff.2 (by rw [upB_iff, upB_iff, e]; rfl)
theorem lk_cutG {a : Es} {t : Int} {m : Nat} (hm : m ≤ a.e.length) (h : ∀ j, m ≤ j → j < a.e.length → t < (ag a.e j).t) (p : Int) : lkA (a.e.take m) p t = lkA a.e p t := by
  unfold lkA
  rw [List.length_take, Nat.min_eq_left hm, lk_same p t m (fun j hj => ag_take hj)]
  obtain ⟨d, hd⟩ : ∃ d, a.e.length = m + d := ⟨a.e.length - m, by omega⟩
  rw [hd, lk_skip]
  intro j h1 h2
  exact h j h1 (by omega)
theorem gr_cutG {a : Es} {t : Int} {m : Nat} (hm : m ≤ a.e.length) (h : ∀ j, m ≤ j → j < a.e.length → t < (ag a.e j).t) (p r : Int) : grA (a.e.take m) p t r = grA a.e p t r := by
  unfold grA
  rw [List.length_take, Nat.min_eq_left hm, gr_same p t r m (fun j hj => ag_take hj)]
  obtain ⟨d, hd⟩ : ∃ d, a.e.length = m + d := ⟨a.e.length - m, by omega⟩
  rw [hd, gr_skip]
  intro j h1 h2
  exact h j h1 (by omega)
theorem wy_cutG {a : Es} {t : Int} {m : Nat} (hm : m ≤ a.e.length) (h : ∀ j, m ≤ j → j < a.e.length → t < (ag a.e j).t) (c q : Int) : wyA (a.e.take m) c t q = wyA a.e c t q := by
  unfold wyA
  rw [List.length_take, Nat.min_eq_left hm, wy_same c t m (fun j hj => ag_take hj)]
  obtain ⟨d, hd⟩ : ∃ d, a.e.length = m + d := ⟨a.e.length - m, by omega⟩
  rw [hd, wy_skip]
  intro j h1 h2
  exact h j h1 (by omega)
/-- What is cut off lies later than a time. -/
structure Late (d : Dy) (a : Es) (m1 m2 t : Nat) : Prop where
  l1 : m1 ≤ d.e.length
  l2 : m2 ≤ a.e.length
  h1 : ∀ j, j < d.e.length → ((eg d j).t ≤ t ↔ j < m1)
  h2 : ∀ j, j < a.e.length → ((ag a.e j).t ≤ (t : Int) ↔ j < m2)
theorem Late.g1 {d : Dy} {a : Es} {m1 m2 t r : Nat} (h : Late d a m1 m2 t) (hr : r ≤ t) : ∀ j, m1 ≤ j → j < d.e.length → r < (eg d j).t := fun j h1 h2 => by
  have := (h.h1 j h2).1
  omega
theorem Late.g2 {d : Dy} {a : Es} {m1 m2 t r : Nat} (h : Late d a m1 m2 t) (hr : r ≤ t) : ∀ j, m2 ≤ j → j < a.e.length → (r : Int) < (ag a.e j).t := fun j h1 h2 => by
  have := (h.h2 j h2).1
  omega
theorem may_cutG {d : Dy} {a : Es} (ha : Eok a) {p P t r m1 m2 : Nat} (hP : (P : Int) < a.n) (h : Late d a m1 m2 t) (hr : r ≤ t) :
    mayB (cutD d m1) ⟨a.n, a.e.take m2⟩ p P r = mayB d a p P r := by
  unfold mayB
  have e1 : lkA (a.e.take m2) (P : Int) (r : Int) = lkA a.e (P : Int) (r : Int) := lk_cutG h.l2 (h.g2 hr) _
  have e2 : gdB ⟨a.n, a.e.take m2⟩ (P : Int) (r : Int) = gdB a (P : Int) (r : Int) := funext fun q => by
    rw [gdB_yes ⟨ha.take m2, by omega, hP⟩, gdB_yes ⟨ha, by omega, hP⟩]
    show (grA (a.e.take m2) _ _ _).isSome = _
    rw [gr_cutG h.l2 (h.g2 hr)]
  show (rB d p && ((lkA (a.e.take m2) (P : Int) (r : Int)).isSome || anyB (keyB (cutD d m1) ⟨a.n, a.e.take m2⟩ p P r) d.k.length)) = _
  rw [e1]
  congr 2
  refine any_congr _ fun q _ => ?_
  unfold keyB
  rw [upB_cutG h.l1 (h.g1 hr), e2]
theorem xB_cut {d : Dy} {a : Es} (ha : Eok a) {p : Int} {P t r m1 m2 : Nat} (hP : (P : Int) < a.n) (h : Late d a m1 m2 t) (hr : r ≤ t) :
    xB (cutD d m1) ⟨a.n, a.e.take m2⟩ p P r = xB d a p P r := by
  unfold xB
  split
  · show (lkA (a.e.take m2) _ _).isSome = _
    rw [lk_cutG h.l2 (h.g2 hr)]
  · exact may_cutG ha hP h hr
theorem xwB_cut {d : Dy} {a : Es} (ha : Eok a) {n : Nat} (hn : a.n = (n : Int)) {c p : Int} {t r m1 m2 : Nat} (h : Late d a m1 m2 t) (hr : r ≤ t) :
    xwB (cutD d m1) ⟨a.n, a.e.take m2⟩ n c p r = xwB d a n c p r := by
  unfold xwB
  refine any_congr _ fun P hP => ?_
  rw [xB_cut ha (by omega) h hr]
  congr 1
  unfold wB
  show (!(wyA (a.e.take m2) _ _ _).isEmpty) = _
  rw [wy_cutG h.l2 (h.g2 hr)]
theorem tiM_cut {d : Dy} {a : Es} {t r m1 m2 : Nat} (h : Late d a m1 m2 t) : TiM (cutD d m1) ⟨a.n, a.e.take m2⟩ r ↔ TiM d a r ∧ r ≤ t := by
  have hl1 : (cutD d m1).e.length = m1 := by show (d.e.take m1).length = m1; rw [List.length_take]; have := h.l1; omega
  have hl2 : (a.e.take m2).length = m2 := by rw [List.length_take]; have := h.l2; omega
  have k1 := h.l1
  have k2 := h.l2
  constructor
  · rintro (⟨j, hj, e⟩ | ⟨j, hj, e⟩)
    · have hj : j < (a.e.take m2).length := hj
      have e : (ag (a.e.take m2) j).t = (r : Int) := e
      rw [hl2] at hj
      rw [ag_take hj] at e
      have := (h.h2 j (by omega)).2 hj
      exact ⟨.inl ⟨j, by omega, e⟩, by omega⟩
    · rw [hl1] at hj
      rw [eg_take hj] at e
      have := (h.h1 j (by omega)).2 hj
      exact ⟨.inr ⟨j, by omega, e⟩, by omega⟩
  · rintro ⟨⟨j, hj, e⟩ | ⟨j, hj, e⟩, hr⟩
    · have hm := (h.h2 j hj).1 (by omega)
      exact .inl ⟨j, by show j < (a.e.take m2).length; omega, by show (ag (a.e.take m2) j).t = _; rw [ag_take hm]; exact e⟩
    · have hm := (h.h1 j hj).1 (by omega)
      exact .inr ⟨j, by rw [hl1]; exact hm, by rw [eg_take hm]; exact e⟩
/-- The first times, of those that are not later. -/
theorem siF_cut {d : Dy} {a : Es} (ha : Eok a) {n : Nat} (hn : a.n = (n : Int)) {c p : Int} {t m1 m2 : Nat} (h : Late d a m1 m2 t) :
    siF (cutD d m1) ⟨a.n, a.e.take m2⟩ n c p = match siF d a n c p with | some T => if T ≤ t then some T else none | none => none := by
  cases e : siF d a n c p with
  | none =>
    refine siF_no fun r hr => ?_
    obtain ⟨h1, h2⟩ := (tiM_cut h).1 hr
    rw [xwB_cut ha hn h h2]
    exact siF_none e r h1
  | some T =>
    obtain ⟨h1, h2, h3⟩ := siF_is e
    by_cases hT : T ≤ t
    · show _ = if T ≤ t then some T else none
      rw [if_pos hT]
      refine siF_yes ⟨(tiM_cut h).2 ⟨h1, hT⟩, by rw [xwB_cut ha hn h hT]; exact h2, fun r hr hx => ?_⟩
      obtain ⟨h4, h5⟩ := (tiM_cut h).1 hr
      rw [xwB_cut ha hn h h5] at hx
      exact h3 r h4 hx
    · show _ = if T ≤ t then some T else none
      rw [if_neg hT]
      refine siF_no fun r hr => ?_
      obtain ⟨h4, h5⟩ := (tiM_cut h).1 hr
      rw [xwB_cut ha hn h h5, ← Bool.not_eq_true]
      intro hx
      have := h3 r h4 hx
      omega
theorem exL_cut {d : Dy} {a : Es} (ha : Eok a) {n : Nat} (hn : a.n = (n : Int)) {c : Int} {t m1 m2 : Nat} (h : Late d a m1 m2 t) :
    ∀ k, exL (cutD d m1) ⟨a.n, a.e.take m2⟩ n c k = (exL d a n c k).filter fun x => decide (x.2 ≤ t)
  | 0 => rfl
  | k + 1 => by
    have ih := exL_cut ha hn (c := c) h k
    have hs := siF_cut ha hn (c := c) (p := (k : Int) - 1) h
    cases e : siF d a n c ((k : Int) - 1) with
    | none =>
      rw [e] at hs
      rw [exL_none hs, exL_none e, ih]
    | some T =>
      rw [e] at hs
      by_cases hT : T ≤ t
      · rw [exL_some (hs.trans (if_pos hT)), exL_some e, List.filter_append, ih]
        congr 1
        simp [hT]
      · rw [exL_none (hs.trans (if_neg hT)), exL_some e, List.filter_append, ih]
        simp [hT]
/-- Is a content put, among the first k events? -/
def putB (a : Es) (c : Int) (k : Nat) : Bool := anyB (fun j => decide ((ag a.e j).k = 5) && decide ((ag a.e j).c = c)) k
theorem wy_noput {a : Es} {c t : Int} (h : putB a c a.e.length = false) : ∀ k, k ≤ a.e.length → ∀ q, wy a.e c t k q = []
  | 0, _, _ => rfl
  | k + 1, hk, q => by
    have ih := wy_noput (t := t) h k (by omega)
    rw [wy]
    split
    · exact ih q
    · have hp : ¬ ((ag a.e k).k = 5 ∧ (ag a.e k).c = c) := fun ⟨h1, h2⟩ => by
        have : putB a c a.e.length = true := (any_iff _ _).2 ⟨k, by omega, by rw [h1, h2]; simp⟩
        rw [h] at this
        cases this
      unfold wst
      split
      · rename_i h5
        rw [if_neg (fun h6 => hp ⟨h5, h6.1⟩)]
        exact ih q
      · split
        · split
          · rfl
          · exact ih q
        · split
          · rw [if_neg (fun h6 => h6.2.1 (ih _))]
            exact ih q
          · exact ih q
theorem exL_noput {d : Dy} {a : Es} {n : Nat} {c : Int} (h : putB a c a.e.length = false) : ∀ k, exL d a n c k = []
  | 0 => rfl
  | k + 1 => by
    have hs : siF d a n c ((k : Int) - 1) = none := siF_no fun r _ => by
      rw [← Bool.not_eq_true]
      unfold xwB
      rw [any_iff]
      rintro ⟨P, _, hx⟩
      rw [Bool.and_eq_true] at hx
      have h1 := hx.1
      unfold wB wyA at h1
      rw [wy_noput h _ (Nat.le_refl _)] at h1
      cases h1
    rw [exL_none hs]
    exact exL_noput h k

end Go.Proofs.YtgknfkmojhganaaGreat.Di
