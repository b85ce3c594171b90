namespace Go.Proofs.YtahggnlmabdbbaaDoor.Di
set_option linter.unusedVariables false

structure T2 where
  a : Int
  b : Int
structure T3 where
  a : Int
  b : Int
  c : Int
structure T4 where
  a : Int
  b : Int
  c : Int
  d : Int
/-- A step: its link, and where it leads. -/
structure T5 where
  l : T4
  t : Int
def e2 (l : List T2) (j : Nat) : T2 := l.getD j ⟨0, 0⟩
def e3 (l : List T3) (j : Nat) : T3 := l.getD j ⟨0, 0, 0⟩
def e4 (l : List T4) (j : Nat) : T4 := l.getD j ⟨0, 0, 0, 0⟩
def e5 (l : List T5) (j : Nat) : T5 := l.getD j ⟨⟨0, 0, 0, 0⟩, 0⟩
def e0 (l : List Int) (j : Nat) : Int := l.getD j 0
theorem e5_mem {l : List T5} {j : Nat} (h : j < l.length) : e5 l j ∈ l := by
  unfold e5
  rw [List.getD_eq_getElem?_getD, List.getElem?_eq_getElem h]
  exact List.getElem_mem h
theorem e0_mem {l : List Int} {j : Nat} (h : j < l.length) : e0 l j ∈ l := by
  unfold e0
  rw [List.getD_eq_getElem?_getD, List.getElem?_eq_getElem h]
  exact List.getElem_mem h
theorem e5_of {l : List T5} {e : T5} (h : e ∈ l) : ∃ j, j < l.length ∧ e5 l j = e := by
  obtain ⟨j, hj, rfl⟩ := List.getElem_of_mem h
  exact ⟨j, hj, by unfold e5; rw [List.getD_eq_getElem?_getD, List.getElem?_eq_getElem hj]; rfl⟩
theorem e0_of {l : List Int} {e : Int} (h : e ∈ l) : ∃ j, j < l.length ∧ e0 l j = e := by
  obtain ⟨j, hj, rfl⟩ := List.getElem_of_mem h
  exact ⟨j, hj, by unfold e0; rw [List.getD_eq_getElem?_getD, List.getElem?_eq_getElem hj]; rfl⟩
theorem e0_left {l : List Int} {x : Int} {j : Nat} (h : j < l.length) : e0 (l ++ [x]) j = e0 l j := by
  unfold e0
  rw [List.getD_eq_getElem?_getD, List.getD_eq_getElem?_getD, List.getElem?_append_left h]
theorem e0_end {l : List Int} {x : Int} : e0 (l ++ [x]) l.length = x := by
  unfold e0
  rw [List.getD_eq_getElem?_getD, List.getElem?_append_right (Nat.le_refl _)]
  simp

/-- Rights. -/
structure Rt where
  c : Int
  k : Int
  g : List T3
  s : List T2
  m : List T2
def okG (x : Rt) (y : T3) : Prop := 0 ≤ y.a ∧ y.a < x.c ∧ 0 ≤ y.b ∧ y.b < x.k ∧ 1 ≤ y.c ∧ y.c ≤ 3
def okS (x : Rt) (y : T2) : Prop := 0 ≤ y.a ∧ y.a < x.k ∧ 0 ≤ y.b ∧ y.b < x.c
def okM (x : Rt) (y : T2) : Prop := 0 ≤ y.a ∧ y.a < x.c ∧ 0 ≤ y.b ∧ y.b < x.c
/-- Valid rights. -/
structure Rok (x : Rt) : Prop where
  c0 : 0 ≤ x.c
  c1 : x.c ≤ 24
  k0 : 0 ≤ x.k
  k1 : x.k ≤ 24
  lg : x.g.length ≤ 100
  ls : x.s.length ≤ 100
  lm : x.m.length ≤ 100
  g : ∀ j, j < x.g.length → okG x (e3 x.g j)
  s : ∀ j, j < x.s.length → okS x (e2 x.s j)
  m : ∀ j, j < x.m.length → okM x (e2 x.m j)
/-- What Check answers. -/
noncomputable def ck (x : Rt) : Int := @ite _ (Rok x) (Classical.propDecidable _) 0 32
theorem ck_ok {x : Rt} (h : Rok x) : ck x = 0 := if_pos h
theorem ck_no {x : Rt} (h : ¬ Rok x) : ck x = 32 := if_neg h

def lkM (i : Nat) : T4 := ⟨2, -1, -1, (i : Int)⟩
def lkS (i k : Nat) : T4 := ⟨1, (i : Int), (k : Int), -1⟩
def lkG (i : Nat) : T4 := ⟨3, (i : Int), -1, -1⟩
/-- The steps from a credential. -/
def stM (x : Rt) (c : Int) : Nat → List T5
  | 0 => []
  | n + 1 => if (e2 x.m n).a = c then stM x c n ++ [⟨lkM n, (e2 x.m n).b⟩] else stM x c n
def stS (x : Rt) (c : Int) (i : Nat) : Nat → List T5
  | 0 => []
  | n + 1 => if (e3 x.g i).a = c ∧ (e3 x.g i).b = (e2 x.s n).a then stS x c i n ++ [⟨lkS i n, (e2 x.s n).b⟩] else stS x c i n
def stG (x : Rt) (c : Int) : Nat → List T5
  | 0 => stM x c x.m.length
  | i + 1 => stG x c i ++ stS x c i x.s.length
def stp (x : Rt) (c : Int) : List T5 := stG x c x.g.length
theorem stM_len (x : Rt) (c : Int) : ∀ n, (stM x c n).length ≤ n
  | 0 => by simp [stM]
  | n + 1 => by
    have := stM_len x c n
    rw [stM]
    split
    · simp; omega
    · omega
theorem stS_len (x : Rt) (c : Int) (i : Nat) : ∀ n, (stS x c i n).length ≤ n
  | 0 => by simp [stS]
  | n + 1 => by
    have := stS_len x c i n
    rw [stS]
    split
    · simp; omega
    · omega
theorem stG_len (x : Rt) (c : Int) (hm : x.m.length ≤ 100) (hs : x.s.length ≤ 100) : ∀ i, (stG x c i).length ≤ 100 + i * 100
  | 0 => by have := stM_len x c x.m.length; rw [stG]; omega
  | i + 1 => by
    have := stG_len x c hm hs i
    have := stS_len x c i x.s.length
    rw [stG, List.length_append]
    omega
/-- Is this a step from a credential? -/
def IsSt (x : Rt) (c : Int) (e : T5) : Prop := (∃ n, n < x.m.length ∧ (e2 x.m n).a = c ∧ e = ⟨lkM n, (e2 x.m n).b⟩) ∨ ∃ i n, i < x.g.length ∧ n < x.s.length ∧ (e3 x.g i).a = c ∧ (e3 x.g i).b = (e2 x.s n).a ∧ e = ⟨lkS i n, (e2 x.s n).b⟩
theorem stM_mem (x : Rt) (c : Int) (e : T5) : ∀ n, e ∈ stM x c n ↔ ∃ j, j < n ∧ (e2 x.m j).a = c ∧ e = ⟨lkM j, (e2 x.m j).b⟩
  | 0 => by simp [stM]
  | n + 1 => by
    have ih := stM_mem x c e n
    rw [stM]
    split
    · rename_i hc
      rw [List.mem_append, ih, List.mem_singleton]
      constructor
      · rintro (⟨j, h1, h2⟩ | h)
        · exact ⟨j, by omega, h2⟩
        · exact ⟨n, by omega, hc, h⟩
      · rintro ⟨j, h1, h2, h3⟩
        by_cases e1 : j = n
        · subst e1; exact .inr h3
        · exact .inl ⟨j, by omega, h2, h3⟩
    · rename_i hc
      rw [ih]
      constructor
      · rintro ⟨j, h1, h2⟩; exact ⟨j, by omega, h2⟩
      · rintro ⟨j, h1, h2, h3⟩
        by_cases e1 : j = n
        · subst e1; exact absurd h2 hc
        · exact ⟨j, by omega, h2, h3⟩
theorem stS_mem (x : Rt) (c : Int) (i : Nat) (e : T5) : ∀ n, e ∈ stS x c i n ↔ ∃ j, j < n ∧ (e3 x.g i).a = c ∧ (e3 x.g i).b = (e2 x.s j).a ∧ e = ⟨lkS i j, (e2 x.s j).b⟩
  | 0 => by simp [stS]
  | n + 1 => by
    have ih := stS_mem x c i e n
    rw [stS]
    split
    · rename_i hc
      rw [List.mem_append, ih, List.mem_singleton]
      constructor
      · rintro (⟨j, h1, h2⟩ | h)
        · exact ⟨j, by omega, h2⟩
        · exact ⟨n, by omega, hc.1, hc.2, h⟩
      · rintro ⟨j, h1, h2, h3, h4⟩
        by_cases e1 : j = n
        · subst e1; exact .inr h4
        · exact .inl ⟨j, by omega, h2, h3, h4⟩
    · rename_i hc
      rw [ih]
      constructor
      · rintro ⟨j, h1, h2⟩; exact ⟨j, by omega, h2⟩
      · rintro ⟨j, h1, h2, h3, h4⟩
        by_cases e1 : j = n
        · subst e1; exact absurd ⟨h2, h3⟩ hc
        · exact ⟨j, by omega, h2, h3, h4⟩
theorem stG_mem (x : Rt) (c : Int) (e : T5) : ∀ i, e ∈ stG x c i ↔ ((∃ n, n < x.m.length ∧ (e2 x.m n).a = c ∧ e = ⟨lkM n, (e2 x.m n).b⟩) ∨ ∃ j n, j < i ∧ n < x.s.length ∧ (e3 x.g j).a = c ∧ (e3 x.g j).b = (e2 x.s n).a ∧ e = ⟨lkS j n, (e2 x.s n).b⟩)
  | 0 => by
    rw [stG, stM_mem]
    constructor
    · intro h; exact .inl h
    · rintro (h | ⟨j, n, h, _⟩)
      · exact h
      · omega
  | i + 1 => by
    have ih := stG_mem x c e i
    rw [stG, List.mem_append, ih, stS_mem]
    constructor
    · rintro ((h | ⟨j, n, h1, h2⟩) | ⟨n, h1, h2⟩)
      · exact .inl h
      · exact .inr ⟨j, n, by omega, h2⟩
      · exact .inr ⟨i, n, by omega, h1, h2⟩
    · rintro (h | ⟨j, n, h1, h2⟩)
      · exact .inl (.inl h)
      · by_cases e1 : j = i
        · subst e1; exact .inr ⟨n, h2⟩
        · exact .inl (.inr ⟨j, n, by omega, h2⟩)
theorem stp_mem (x : Rt) (c : Int) (e : T5) : e ∈ stp x c ↔ IsSt x c e := stG_mem x c e _
theorem IsSt.rng {x : Rt} (h : Rok x) {c : Int} {e : T5} (he : IsSt x c e) : 0 ≤ e.t ∧ e.t < x.c := by
  rcases he with ⟨n, h1, _, rfl⟩ | ⟨i, n, _, h1, _, _, rfl⟩
  · have := h.m n h1; exact ⟨this.2.2.1, this.2.2.2⟩
  · have := h.s n h1; exact ⟨this.2.2.1, this.2.2.2⟩

/-- A chain of links from a credential to another one. -/
inductive Pth (x : Rt) (c : Int) : List T4 → Int → Prop
  | nil : Pth x c [] c
  | snoc {l : List T4} {y : Int} {e : T5} : Pth x c l y → IsSt x y e → Pth x c (l ++ [e.l]) e.t
def Rch (x : Rt) (c y : Int) : Prop := ∃ l, Pth x c l y
theorem Rch.refl (x : Rt) (c : Int) : Rch x c c := ⟨[], .nil⟩
theorem Rch.step {x : Rt} {c y : Int} (h : Rch x c y) {e : T5} (he : IsSt x y e) : Rch x c e.t := by
  obtain ⟨l, h⟩ := h
  exact ⟨_, h.snoc he⟩
theorem Pth.rch_trans {x : Rt} {c : Int} {y : Int} (h : Rch x c y) {l : List T4} {z : Int} (h2 : Pth x y l z) : Rch x c z := by
  induction h2 with
  | nil => exact h
  | snoc _ he ih => exact ih.step he
theorem Rch.trans {x : Rt} {c y z : Int} (h : Rch x c y) (h2 : Rch x y z) : Rch x c z := by
  obtain ⟨l, h2⟩ := h2
  exact h2.rch_trans h
theorem Pth.closed {x : Rt} {c : Int} {S : Int → Prop} (h0 : S c) (hs : ∀ y e, S y → IsSt x y e → S e.t) {l : List T4} {z : Int} (h : Pth x c l z) : S z := by
  induction h with
  | nil => exact h0
  | snoc _ he ih => exact hs _ _ ih he
theorem Rch.closed {x : Rt} {c z : Int} (h : Rch x c z) {S : Int → Prop} (h0 : S c) (hs : ∀ y e, S y → IsSt x y e → S e.t) : S z := by
  obtain ⟨l, h⟩ := h
  exact h.closed h0 hs
theorem Rch.rng {x : Rt} (hx : Rok x) {c z : Int} (h : Rch x c z) (h0 : 0 ≤ c ∧ c < x.c) : 0 ≤ z ∧ z < x.c :=
  h.closed (S := fun z => 0 ≤ z ∧ z < x.c) h0 (fun _ _ _ he => he.rng hx)

theorem nodup_int (n : Nat) (l : List Int) (hd : l.Nodup) (h : ∀ x ∈ l, 0 ≤ x ∧ x < (n : Int)) : l.length ≤ n := by
  have h1 : (l.map Int.toNat).Nodup := by
    refine List.pairwise_map.2 (hd.imp_of_mem fun {a b} ha hb hne e => hne ?_)
    have := h a ha
    have := h b hb
    omega
  have key : ∀ (n : Nat) (l : List Nat), l.Nodup → (∀ x ∈ l, x < n) → l.length ≤ n := by
    intro n
    induction n with
    | zero => intro l _ h; cases l with
      | nil => simp
      | cons x l => exact absurd (h x (by simp)) (by omega)
    | succ n ih =>
      intro l hd h
      have h1 := ih (l.erase n) (hd.erase n) (fun x hx => by
        have hx2 := (hd.mem_erase_iff).1 hx
        have := h x hx2.2
        have := hx2.1
        omega)
      have h2 := List.length_erase (a := n) (l := l)
      split at h2 <;> omega
  have := key n (l.map Int.toNat) h1 (fun x hx => by
    obtain ⟨y, hy, rfl⟩ := List.mem_map.1 hx
    have := h y hy
    omega)
  simpa using this

/-- The walk of chains: the credentials met, a chain to each, how many of them have been looked at, and how many steps of the next. -/
structure Bf (x : Rt) (c : Int) (K : List Int) (C : List (List T4)) (i n : Nat) : Prop where
  len : C.length = K.length
  nd : K.Nodup
  le : i ≤ K.length
  mem : c ∈ K
  rng : ∀ y ∈ K, 0 ≤ y ∧ y < x.c
  pth : ∀ j, j < K.length → Pth x c (C.getD j []) (e0 K j)
  cl : ∀ j, j < K.length → (C.getD j []).length ≤ j
  clo : ∀ j, j < i → ∀ e, IsSt x (e0 K j) e → e.t ∈ K
  part : ∀ j, j < n → (e5 (stp x (e0 K i)) j).t ∈ K
theorem Bf.start (x : Rt) {c : Int} (h : 0 ≤ c ∧ c < x.c) : Bf x c [c] [[]] 0 0 :=
  ⟨rfl, by simp, by simp, by simp, by simpa using h, fun j hj => by
    have : j = 0 := by simp at hj; omega
    subst this
    exact .nil, fun j hj => by
    have : j = 0 := by simp at hj; omega
    subst this
    simp, fun j hj => absurd hj (by omega), fun j hj => absurd hj (by omega)⟩
theorem Bf.k24 {x : Rt} {c : Int} {K : List Int} {C : List (List T4)} {i n : Nat} (h : Bf x c K C i n) (hx : Rok x) : K.length ≤ 24 :=
  nodup_int 24 K h.nd (fun y hy => by have := h.rng y hy; have := hx.c1; omega)
theorem Bf.skip {x : Rt} {c : Int} {K : List Int} {C : List (List T4)} {i n : Nat} (h : Bf x c K C i n) (hm : (e5 (stp x (e0 K i)) n).t ∈ K) : Bf x c K C i (n + 1) :=
  ⟨h.len, h.nd, h.le, h.mem, h.rng, h.pth, h.cl, h.clo, fun j hj => by
    by_cases e : j = n
    · subst e; exact hm
    · exact h.part j (by omega)⟩
theorem Bf.next {x : Rt} {c : Int} {K : List Int} {C : List (List T4)} {i n : Nat} (h : Bf x c K C i n) (hi : i < K.length) (hn : n = (stp x (e0 K i)).length) : Bf x c K C (i + 1) 0 :=
  ⟨h.len, h.nd, by omega, h.mem, h.rng, h.pth, h.cl, fun j hj e he => by
    by_cases ej : j = i
    · subst ej
      obtain ⟨q, hq, rfl⟩ := e5_of ((stp_mem _ _ _).2 he)
      exact h.part q (by omega)
    · exact h.clo j (by omega) e he, fun j hj => absurd hj (by omega)⟩
theorem getD_left {α : Type} {l : List α} {x d : α} {j : Nat} (h : j < l.length) : (l ++ [x]).getD j d = l.getD j d := by
  rw [List.getD_eq_getElem?_getD, List.getD_eq_getElem?_getD, List.getElem?_append_left h]
theorem getD_end {α : Type} {l : List α} {x d : α} : (l ++ [x]).getD l.length d = x := by
  rw [List.getD_eq_getElem?_getD, List.getElem?_append_right (Nat.le_refl _)]
  simp
theorem Bf.add {x : Rt} (hx : Rok x) {c : Int} {K : List Int} {C : List (List T4)} {i n : Nat} (h : Bf x c K C i n) (hi : i < K.length) (hn : n < (stp x (e0 K i)).length) (hm : (e5 (stp x (e0 K i)) n).t ∉ K) :
    Bf x c (K ++ [(e5 (stp x (e0 K i)) n).t]) (C ++ [C.getD i [] ++ [(e5 (stp x (e0 K i)) n).l]]) i (n + 1) := by
  have hst := (stp_mem _ _ _).1 (e5_mem hn)
  have hei : ∀ z : Int, e0 (K ++ [z]) i = e0 K i := fun z => e0_left hi
  generalize hz : e5 (stp x (e0 K i)) n = z at *
  refine ⟨by simp [h.len], ?_, by simp; omega, by simp [h.mem], ?_, ?_, ?_, ?_, ?_⟩
  · rw [List.nodup_append]
    exact ⟨h.nd, by simp, fun a ha b hb => by rw [List.mem_singleton] at hb; subst hb; intro e; subst e; exact hm ha⟩
  · intro y hy
    rw [List.mem_append, List.mem_singleton] at hy
    rcases hy with hy | rfl
    · exact h.rng y hy
    · exact hst.rng hx
  · intro j hj
    simp at hj
    by_cases ej : j = K.length
    · subst ej
      rw [e0_end, ← h.len, getD_end]
      exact (h.pth i hi).snoc hst
    · rw [e0_left (by omega), getD_left (by rw [h.len]; omega)]
      exact h.pth j (by omega)
  · intro j hj
    simp at hj
    by_cases ej : j = K.length
    · subst ej
      rw [← h.len, getD_end]
      have h1 := h.cl i hi
      have h2 := h.len
      rw [List.length_append, List.length_singleton]
      omega
    · rw [getD_left (by rw [h.len]; omega)]
      exact h.cl j (by omega)
  · intro j hj e he
    rw [e0_left (by have := h.le; omega)] at he
    rw [List.mem_append]
    exact .inl (h.clo j hj e he)
  · intro j hj
    rw [hei, List.mem_append]
    by_cases ej : j = n
    · subst ej
      rw [hz]
      exact .inr (by simp)
    · exact .inl (h.part j (by omega))
theorem Bf.done {x : Rt} {c : Int} {K : List Int} {C : List (List T4)} {i n : Nat} (h : Bf x c K C i n) (hi : i = K.length) (y : Int) : y ∈ K ↔ Rch x c y := by
  subst hi
  constructor
  · intro hy
    obtain ⟨j, hj, rfl⟩ := e0_of hy
    exact ⟨_, h.pth j hj⟩
  · intro hr
    refine hr.closed (S := fun y => y ∈ K) h.mem (fun z e hz he => ?_)
    obtain ⟨j, hj, rfl⟩ := e0_of hz
    exact h.clo j hj e he

/-- The numbers below one that have something, ascending. -/
def fl (p : Int → Bool) (n : Nat) : List Int := ((List.range n).map fun j : Nat => (j : Int)).filter p
theorem fl_mem (p : Int → Bool) (n : Nat) (y : Int) : y ∈ fl p n ↔ 0 ≤ y ∧ y < (n : Int) ∧ p y = true := by
  unfold fl
  rw [List.mem_filter, List.mem_map]
  constructor
  · rintro ⟨⟨j, h1, rfl⟩, h2⟩
    rw [List.mem_range] at h1
    exact ⟨by omega, by omega, h2⟩
  · rintro ⟨h1, h2, h3⟩
    exact ⟨⟨y.toNat, by rw [List.mem_range]; omega, by omega⟩, h3⟩
theorem fl_up (p : Int → Bool) (n : Nat) : (fl p n).Pairwise (· < ·) := by
  unfold fl
  refine List.Pairwise.filter _ ?_
  rw [List.pairwise_map]
  exact List.pairwise_lt_range.imp (fun h => by omega)
theorem fl_len (p : Int → Bool) (n : Nat) : (fl p n).length ≤ n := by
  unfold fl
  refine Nat.le_trans (List.length_filter_le _ _) ?_
  simp
/-- A list of numbers that is sorted and holds the same is the same. -/
theorem fl_of {p : Int → Bool} {n : Nat} {K : List Int} (hd : K.Nodup) (hm : ∀ y, y ∈ K ↔ 0 ≤ y ∧ y < (n : Int) ∧ p y = true) : (fl p n).Perm K := by
  have hd2 : (fl p n).Nodup := (fl_up p n).imp (fun h => by omega)
  exact (List.perm_ext_iff_of_nodup hd2 hd).2 (fun y => by rw [fl_mem, hm])
noncomputable def rB (x : Rt) (c y : Int) : Bool := @decide (Rch x c y) (Classical.propDecidable _)
theorem rB_iff {x : Rt} {c y : Int} : rB x c y = true ↔ Rch x c y := by
  unfold rB
  exact @decide_eq_true_iff _ (Classical.propDecidable _)
/-- The credentials that one reaches. -/
noncomputable def rl (x : Rt) (c : Int) : List Int := fl (rB x c) x.c.toNat
theorem rl_mem {x : Rt} (hx : Rok x) {c : Int} (hc : 0 ≤ c ∧ c < x.c) (y : Int) : y ∈ rl x c ↔ Rch x c y := by
  unfold rl
  rw [fl_mem, rB_iff]
  constructor
  · rintro ⟨_, _, h⟩; exact h
  · intro h
    have := h.rng hx hc
    exact ⟨this.1, by omega, h⟩
theorem rl_len {x : Rt} (hx : Rok x) (c : Int) : (rl x c).length ≤ 24 := by
  have := fl_len (rB x c) x.c.toNat
  have := hx.c1
  unfold rl
  omega

/-- The greatest right of the first n grants of some on a resource. -/
def gt (x : Rt) (S : Int → Bool) (r : Int) : Nat → Int
  | 0 => 0
  | n + 1 => if S (e3 x.g n).a = true ∧ (e3 x.g n).b = r then max (gt x S r n) (e3 x.g n).c else gt x S r n
theorem gt_nonneg (x : Rt) (S : Int → Bool) (r : Int) : ∀ n, 0 ≤ gt x S r n
  | 0 => Int.le_refl _
  | n + 1 => by
    have := gt_nonneg x S r n
    rw [gt]
    split <;> omega
theorem gt_le (x : Rt) (S : Int → Bool) (r : Int) (M : Int) (hM : 0 ≤ M) : ∀ n, (∀ j, j < n → S (e3 x.g j).a = true → (e3 x.g j).b = r → (e3 x.g j).c ≤ M) → gt x S r n ≤ M
  | 0, _ => hM
  | n + 1, h => by
    have h1 := gt_le x S r M hM n (fun j hj => h j (by omega))
    rw [gt]
    split
    · rename_i hc
      have := h n (by omega) hc.1 hc.2
      omega
    · exact h1
theorem le_gt (x : Rt) (S : Int → Bool) (r : Int) : ∀ n j, j < n → S (e3 x.g j).a = true → (e3 x.g j).b = r → (e3 x.g j).c ≤ gt x S r n
  | 0, j, hj, _, _ => absurd hj (by omega)
  | n + 1, j, hj, h1, h2 => by
    rw [gt]
    by_cases e : j = n
    · subst e
      rw [if_pos ⟨h1, h2⟩]
      omega
    · have := le_gt x S r n j (by omega) h1 h2
      split <;> omega
theorem gt_some (x : Rt) (S : Int → Bool) (r : Int) : ∀ n, 0 < gt x S r n → ∃ j, j < n ∧ S (e3 x.g j).a = true ∧ (e3 x.g j).b = r ∧ (e3 x.g j).c = gt x S r n
  | 0, h => absurd h (by simp [gt])
  | n + 1, h => by
    rw [gt] at h ⊢
    split at h
    · rename_i hc
      rw [if_pos hc]
      by_cases hm : gt x S r n ≤ (e3 x.g n).c
      · exact ⟨n, by omega, hc.1, hc.2, by omega⟩
      · obtain ⟨j, h1, h2, h3, h4⟩ := gt_some x S r n (by omega)
        exact ⟨j, by omega, h2, h3, by omega⟩
    · rename_i hc
      rw [if_neg hc]
      obtain ⟨j, h1, h2⟩ := gt_some x S r n h
      exact ⟨j, by omega, h2⟩
/-- The powers of a set on each resource, of the first n grants. -/
def pwN (x : Rt) (S : Int → Bool) (n : Nat) : List Int := (List.range x.k.toNat).map fun r : Nat => gt x S (r : Int) n
def pw (x : Rt) (S : Int → Bool) : List Int := pwN x S x.g.length
theorem pwN_len (x : Rt) (S : Int → Bool) (n : Nat) : (pwN x S n).length = x.k.toNat := by simp [pwN]
theorem pwN_at (x : Rt) (S : Int → Bool) (n : Nat) {r : Nat} (h : r < x.k.toNat) : e0 (pwN x S n) r = gt x S (r : Int) n := by
  unfold pwN e0
  simp [List.getD_eq_getElem?_getD, h]
theorem pw_len (x : Rt) (S : Int → Bool) : (pw x S).length = x.k.toNat := pwN_len _ _ _
theorem pw_at (x : Rt) (S : Int → Bool) {r : Nat} (h : r < x.k.toNat) : e0 (pw x S) r = gt x S (r : Int) x.g.length := pwN_at _ _ _ h
def inB (l : List Int) (y : Int) : Bool := decide (y ∈ l)
theorem inB_iff {l : List Int} {y : Int} : inB l y = true ↔ y ∈ l := by simp [inB]
theorem gt_congr {x : Rt} {S S' : Int → Bool} (h : ∀ y, S y = S' y) (r : Int) : ∀ n, gt x S r n = gt x S' r n
  | 0 => rfl
  | n + 1 => by rw [gt, gt, gt_congr h r n, h]
theorem pw_congr {x : Rt} {S S' : Int → Bool} (h : ∀ y, S y = S' y) : pw x S = pw x S' := by
  unfold pw pwN
  exact List.map_congr_left (fun r _ => gt_congr h _ _)

end Go.Proofs.YtahggnlmabdbbaaDoor.Di
