import Derived.Test.YtgknfkmojhganaaGreatAcD
import Derived.Test.YtgknfkmojhganaaGreatShelfA
import Derived.Test.YtgknfkmojhganaaGreatDiD
import Derived.Sort.Grow
import Derived.Maps.Range
namespace Go.Proofs.YtgknfkmojhganaaGreat.Di
open Go.RowKit Go.Maps
open Go.Sort (Holds putRow grow putCells)
open Go.Proofs.YtgknfkmojhganaaGreat.Tp
set_option linter.unusedVariables false

theorem nodup_le : ∀ (n : Nat) (l : List Nat), l.Nodup → (∀ x ∈ l, x < n) → l.length ≤ n
  | 0, l, _, h => by
    cases l with
    | nil => simp
    | cons x l => exact absurd (h x (by simp)) (by omega)
  | n + 1, l, hd, h => by
    have h1 := nodup_le n (l.erase n) (hd.erase n) (fun x hx => by
      have hx2 := (hd.mem_erase_iff).1 hx
      have := h x hx2.2
      have := hx2.1
      omega)
    have h2 := List.length_erase (a := n) (l := l)
    split at h2 <;> omega
def zs (l : List Nat) : List Int := l.map fun x : Nat => (x : Int)
theorem iv_zs (l : List Nat) : iv l = (zs l).map (Value.int .i64) := by simp [iv, zs]
theorem zs_len (l : List Nat) : (zs l).length = l.length := by simp [zs]
theorem holds_zs {w : World} {g : Nat} {cur : Array Value} {e : TypeId} {l : List Int} (hb : w.heap[g]? = some (.cells cur e (0, 0))) (ht : cur.toList.take l.length = l.map (Value.int .i64)) : Holds (Value.int .i64) w g 0 l.toArray := by
  intro j hj
  have hj' : j < l.length := by simpa using hj
  refine ⟨?_, frozen_of_row _ _ _ _ _ hb⟩
  have h1 : (cur.toList.take l.length)[j]? = (l.map (Value.int .i64))[j]? := by rw [ht]
  rw [List.getElem?_take_of_lt hj'] at h1
  rw [Nat.zero_add, cell_of_row _ _ _ _ _ _ hb, ← Array.getElem?_toList, h1]
  simp [hj']
theorem heap_put {w : World} {g n : Nat} {cur : Array Value} {e : TypeId} {fr : Nat × Nat} (d : Array Int) (hb : w.heap[g]? = some (.cells cur e fr)) :
    (putRow (Value.int .i64) (Go.Sort.ahead w n) g 0 d).heap[g]? = some (.cells (putCells (Value.int .i64) 0 d cur) e fr) := by
  simp [putRow, Go.Sort.mapBlock, Go.Sort.ahead, Array.getElem?_modify, hb, Go.Sort.onCells]
theorem gb_put {w : World} {g n : Nat} (d : Array Int) : w.grownBy (putRow (Value.int .i64) (Go.Sort.ahead w n) g 0 d) (some g) := by
  refine ⟨rfl, rfl, rfl, by simp [putRow, Go.Sort.mapBlock, Go.Sort.ahead], fun k hk hne => ?_⟩
  have : g ≠ k := fun e => hne (by rw [e])
  simp [putRow, Go.Sort.mapBlock, Go.Sort.ahead, Array.getElem?_modify, this]
theorem gb_grow (w : World) (os : Array Obj) : w.grownBy (grow w os) none :=
  ⟨rfl, rfl, rfl, by simp, fun k hk _ => Go.Sort.heap_grow_old _ _ hk⟩
theorem take_put (cur : Array Value) (l m : List Int) (h : (l ++ m).length ≤ cur.size) : (putCells (Value.int .i64) 0 (l ++ m).toArray cur).toList.take l.length = l.map (Value.int .i64) := by
  apply List.ext_getElem?
  intro j
  by_cases hj : j < l.length
  · rw [List.getElem?_take_of_lt hj, Array.getElem?_toList]
    have h1 : j < (l ++ m).length := by simp; omega
    simp [putCells, hj, show j < cur.size by omega, show j < l.length + m.length by omega]
  · rw [List.getElem?_take_eq_none (by omega), List.getElem?_eq_none (by simp; omega)]

theorem sort_is {L S : List Nat} (hp : S.Perm L) (hs : S.Pairwise (· ≤ ·)) : ((zs L).mergeSort fun x y => decide (x ≤ y)) = zs S := by
  have tr : ∀ a b c : Int, decide (a ≤ b) = true → decide (b ≤ c) = true → decide (a ≤ c) = true := fun a b c h1 h2 => by simp only [decide_eq_true_eq] at *; omega
  have to : ∀ a b : Int, (decide (a ≤ b) || decide (b ≤ a)) = true := fun a b => by simp only [Bool.or_eq_true, decide_eq_true_eq]; omega
  refine List.Perm.eq_of_pairwise (le := fun a b => decide (a ≤ b) = true) (fun a b _ _ h1 h2 => ?_) (List.pairwise_mergeSort tr to _) ?_ ((List.mergeSort_perm _ _).trans (hp.symm.map _))
  · simp only [decide_eq_true_eq] at h1 h2; omega
  · unfold zs
    rw [List.pairwise_map]
    exact hs.imp (fun h => by simp only [decide_eq_true_eq]; omega)
/-- slices.Sort at a row of one's own. -/
theorem sort_own (base n : Nat) (v : Value) (L S : List Nat) (w : World) (h : w.ownsRow base 3 1 v n (iv L)) (hp : S.Perm L) (hs : S.Pairwise (· ≤ ·)) (hn : n ≤ 1000) :
    Calls Tryz.prog 109 #[v] w fun e w' => e = .returned (.tuple #[]) ∧ w'.ownsRow base 3 1 v n (iv S) ∧ w.grownBy w' v.ownBlock := by
  have hl : L.length = n := by have := h.1; rw [iv_len] at this; omega
  have hls := hp.length_eq
  by_cases h0 : n = 0
  · subst h0
    have eL : L = [] := List.eq_nil_of_length_eq_zero hl
    have eS : S = [] := List.eq_nil_of_length_eq_zero (by omega)
    subst eL eS
    obtain ⟨A, c, rfl⟩ := own_form h
    refine (Tryz.slices_Sort_int_none A c w).mono ?_
    rintro e w' ⟨rfl, rfl⟩
    exact ⟨rfl, h, World.grownBy.refl _ _⟩
  rcases h.2 with ⟨rfl, e⟩ | ⟨g, cap, cur, rfl, hg, hh, hnc, hcm, hcs, hct⟩
  · exact absurd e h0
  · have hct' : cur.toList.take (zs L).length = (zs L).map (Value.int .i64) := by rw [zs_len, hl, ← iv_zs]; simpa using hct
    have hc := Tryz.slices_Sort_int g 0 cap (zs L) w (holds_zs hh hct') (row_lt hh) (by rw [zs_len]; omega)
    rw [zs_len, hl] at hc
    refine hc.mono ?_
    rintro e w' ⟨rfl, m, os, rfl⟩
    rw [sort_is hp hs]
    have hp1 := heap_put (n := m) (zs S).toArray hh
    have hsz : g < (putRow (Value.int .i64) (Go.Sort.ahead w m) g 0 (zs S).toArray).heap.size := row_lt hp1
    refine ⟨rfl, ⟨by rw [iv_len]; omega, .inr ⟨g, cap, _, rfl, hg, (Go.Sort.heap_grow_old _ _ hsz).trans hp1, hnc, hcm, by simp [putCells, hcs], ?_⟩⟩, ?_⟩
    · have := take_put cur (zs S) [] (by rw [List.append_nil, zs_len]; omega)
      rw [List.append_nil, zs_len, hls, hl] at this
      rw [Nat.mul_one, this, iv_zs]
    · exact gb_trans (gb_put (zs S).toArray) (gb_row (gb_grow _ _))

/-- A list without what stands twice in a row. -/
def dk (l : List Nat) : Nat → List Nat
  | 0 => []
  | k + 1 => if k = 0 ∨ l.getD k 0 ≠ l.getD (k - 1) 0 then dk l k ++ [l.getD k 0] else dk l k
theorem dk_mem (l : List Nat) (r : Nat) : ∀ k, r ∈ dk l k ↔ ∃ j, j < k ∧ l.getD j 0 = r
  | 0 => by simp [dk]
  | k + 1 => by
    have ih := dk_mem l r k
    rw [dk]
    split
    · rw [List.mem_append, ih, List.mem_singleton]
      constructor
      · rintro (⟨j, h1, h2⟩ | h)
        · exact ⟨j, by omega, h2⟩
        · exact ⟨k, by omega, h.symm⟩
      · rintro ⟨j, h1, h2⟩
        by_cases e : j = k
        · exact .inr (by rw [← h2, e])
        · exact .inl ⟨j, by omega, h2⟩
    · rename_i hc
      rw [ih]
      constructor
      · rintro ⟨j, h1, h2⟩; exact ⟨j, by omega, h2⟩
      · rintro ⟨j, h1, h2⟩
        by_cases e : j = k
        · have h3 : l.getD k 0 = l.getD (k - 1) 0 := by
            by_cases e : l.getD k 0 = l.getD (k - 1) 0
            · exact e
            · exact absurd (.inr e) hc
          exact ⟨k - 1, by omega, by rw [← h3, ← e]; exact h2⟩
        · exact ⟨j, by omega, h2⟩
theorem dk_len (l : List Nat) : ∀ k, (dk l k).length ≤ k
  | 0 => by simp [dk]
  | k + 1 => by
    have := dk_len l k
    rw [dk]
    split
    · simp; omega
    · omega
theorem zs_at (l : List Nat) {k : Nat} (h : k < l.length) : (zs l).toArray[k]! = ((l.getD k 0 : Nat) : Int) := by
  simp [zs, List.getD_eq_getElem?_getD, h]
theorem compact_is (l : List Nat) : Lib.compact (zs l) = zs (dk l l.length) := by
  unfold Lib.compact
  rw [zs_len]
  have key : ∀ k, k ≤ l.length → Lib.compactUpTo (zs l).toArray k = zs (dk l k) := by
    intro k
    induction k with
    | zero => intro _; rfl
    | succ k ih =>
      intro hk
      rw [Lib.compactUpTo_succ, ih (by omega), dk, zs_at l (by omega)]
      by_cases c : k = 0 ∨ l.getD k 0 ≠ l.getD (k - 1) 0
      · have hkp : Lib.keeps (zs l).toArray k = true := by
          rcases c with c | c
          · exact Lib.keeps_lt_one _ k (by omega)
          · refine Lib.keeps_pos ?_
            rw [zs_at l (by omega)]
            by_cases e0 : k = 0
            · subst e0; exact absurd rfl c
            · rw [zs_at l (by omega)]; omega
        rw [if_pos hkp, if_pos c]
        simp [zs]
      · have h0 : k ≠ 0 := fun e => c (.inl e)
        have h1 : l.getD k 0 = l.getD (k - 1) 0 := by
          by_cases e : l.getD k 0 = l.getD (k - 1) 0
          · exact e
          · exact absurd (.inr e) c
        have hkn : Lib.keeps (zs l).toArray k = false := Lib.keeps_neg (by omega) (by rw [zs_at l (by omega), zs_at l (by omega), h1])
        rw [if_neg (by rw [hkn]; decide), if_neg c, List.append_nil]
  exact key _ (Nat.le_refl _)
/-- Has a principal a grant, and does the estate hold? -/
noncomputable def gdB (a : Es) (p t : Int) (r : Nat) : Bool := @decide (exP a p ∧ (grA a.e p t (r : Int)).isSome = true) (Classical.propDecidable _)
theorem gdB_yes {a : Es} {p : Int} (he : exP a p) (t : Int) (r : Nat) : gdB a p t r = (grA a.e p t (r : Int)).isSome := by
  unfold gdB
  cases h : (grA a.e p t (r : Int)).isSome with
  | true => exact @decide_eq_true _ (Classical.propDecidable _) ⟨he, rfl⟩
  | false => exact @decide_eq_false _ (Classical.propDecidable _) (fun h => by cases h.2)
theorem gdB_no {a : Es} {p : Int} (he : ¬ exP a p) (t : Int) (r : Nat) : gdB a p t r = false := by
  unfold gdB
  exact @decide_eq_false _ (Classical.propDecidable _) (fun h => he h.1)
theorem idx_sorted (p : Nat → Bool) : ∀ n, (idx p n).Pairwise (· < ·)
  | 0 => List.Pairwise.nil
  | n + 1 => by
    rw [idx]
    split
    · rw [List.pairwise_append]
      exact ⟨idx_sorted p n, List.pairwise_singleton _ _, fun a ha b hb => by rw [List.mem_singleton] at hb; rw [hb]; exact ((idx_mem p a n).1 ha).1⟩
    · exact idx_sorted p n
theorem idx_perm {p : Nat → Bool} {n : Nat} {L : List Nat} (hd : L.Nodup) (hm : ∀ r, r ∈ L ↔ r < n ∧ p r = true) : (idx p n).Perm L := by
  have hd2 : (idx p n).Nodup := (idx_sorted p n).imp (fun h => by omega)
  exact (List.perm_ext_iff_of_nodup hd2 hd).2 (fun r => by rw [hm, idx_mem])
theorem idx_none {p : Nat → Bool} (h : ∀ r, p r = false) : ∀ n, idx p n = [] ∧ cnt p n = 0
  | 0 => ⟨rfl, rfl⟩
  | n + 1 => by
    have ih := idx_none h n
    rw [idx, cnt, h n]
    exact ⟨ih.1, by rw [ih.2]; rfl⟩
/-- What has been met of the map's keys. -/
structure Coll (D : DataW Unit) (left : Lit → Bool) (L : List Nat) : Prop where
  nd : L.Nodup
  mem : ∀ r : Nat, r ∈ L ↔ (Maps.has D (.int .i64 (r : Int)) = true ∧ left (.int .i64 (r : Int)) = false)
theorem Coll.start (D : DataW Unit) : Coll D (Maps.has D) [] := ⟨List.nodup_nil, fun r => by
  constructor
  · intro h; cases h
  · rintro ⟨h1, h2⟩; rw [h1] at h2; cases h2⟩
theorem same_lit (x y : Int) : (Lit.int .i64 x).sameKey (.int .i64 y) = (x == y) := by
  simp [Lit.sameKey]
  by_cases h : x = y <;> simp [h]
theorem Coll.step {D : DataW Unit} {left : Lit → Bool} {L : List Nat} (h : Coll D left L) {x : Nat} (hx : left (.int .i64 (x : Int)) = true) (hh : Maps.has D (.int .i64 (x : Int)) = true) : Coll D (fun z => left z && !z.sameKey (.int .i64 (x : Int))) (L ++ [x]) := by
  refine ⟨?_, fun r => ?_⟩
  · rw [List.nodup_append]
    refine ⟨h.nd, by simp, fun a ha b hb => ?_⟩
    rw [List.mem_singleton] at hb
    subst hb
    intro e
    subst e
    rw [((h.mem a).1 ha).2] at hx
    cases hx
  · rw [List.mem_append, h.mem, List.mem_singleton]
    by_cases e : r = x
    · subst e
      simp [hh, same_lit]
    · have e2 : ((r : Int) == (x : Int)) = false := beq_eq_false_iff_ne.2 (by omega)
      simp only [e, same_lit, e2, or_false, Bool.not_false, Bool.and_true]
theorem Coll.fin {D : DataW Unit} {left : Lit → Bool} {L : List Nat} (h : Coll D left L) (h0 : ∀ kl, left kl = false) (r : Nat) : r ∈ L ↔ Maps.has D (.int .i64 (r : Int)) = true := by
  rw [h.mem, h0]
  exact ⟨fun h => h.1, fun h => ⟨h, rfl⟩⟩

end Go.Proofs.YtgknfkmojhganaaGreat.Di
