import Derived.Test.YtlmpbfijgnkpkaaDjF
namespace Go.Proofs.Ytlmpbfijgnkpkaa.Di
open Go.RowKit
open Go.Proofs.Ytlmpbfijgnkpkaa.Tp
set_option linter.unusedVariables false

def rl {α : Type} (f : Nat → α) (n : Nat) : List α := (List.range n).map f
theorem rl_len {α : Type} (f : Nat → α) (n : Nat) : (rl f n).length = n := by simp [rl]
theorem rl_at {α : Type} (f : Nat → α) (n i : Nat) (h : i < n) : (rl f n)[i]? = some (f i) := by
  unfold rl
  rw [List.getElem?_map, List.getElem?_range h]
  rfl
theorem rl_set {α : Type} (f : Nat → α) (n k : Nat) (v : α) (h : k < n) : (rl f n).set k v = rl (fun j => if j = k then v else f j) n := by
  refine List.ext_getElem? fun i => ?_
  rw [List.getElem?_set, rl_len]
  by_cases hi : i < n
  · rw [rl_at _ _ _ hi, rl_at _ _ _ hi]
    by_cases e : k = i
    · subst e; simp [hi]
    · rw [if_neg e]
      simp only [if_neg (Ne.symm e)]
  · have e1 : (rl f n)[i]? = none := List.getElem?_eq_none (by rw [rl_len]; omega)
    have e2 : (rl (fun j => if j = k then v else f j) n)[i]? = none := List.getElem?_eq_none (by rw [rl_len]; omega)
    rw [e1, e2, if_neg (by omega)]

/-- Twenty-four numbers, as cells. -/
def nar (F : Nat → Nat) : Array Value := (rl (fun q => Value.int .i64 (F q : Int)) 24).toArray
theorem nar_no : nar (fun _ => 0) = #[.int .i64 0, .int .i64 0, .int .i64 0, .int .i64 0, .int .i64 0, .int .i64 0, .int .i64 0, .int .i64 0, .int .i64 0, .int .i64 0, .int .i64 0, .int .i64 0, .int .i64 0, .int .i64 0, .int .i64 0, .int .i64 0, .int .i64 0, .int .i64 0, .int .i64 0, .int .i64 0, .int .i64 0, .int .i64 0, .int .i64 0, .int .i64 0] := rfl
theorem nar_cell {w : World} {X q : Nat} {F : Nat → Nat} {t : TypeId} (h : w.heap[X]? = some (.cells (nar F) t (0, 0))) (hq : q < 24) : w.cell? ⟨X, q, none⟩ = some (.int .i64 (F q : Int)) ∧ w.frozen? ⟨X, q, none⟩ = false := by
  refine ⟨?_, frozen_of_row _ _ _ _ _ h⟩
  rw [cell_of_row _ _ _ _ _ _ h]
  unfold nar
  rw [List.getElem?_toArray, rl_at _ _ _ hq]
theorem nar_put {w : World} {X q : Nat} {F : Nat → Nat} {t : TypeId} (b : Nat) (h : w.heap[X]? = some (.cells (nar F) t (0, 0))) (hq : q < 24) : w.setCell ⟨X, q, none⟩ (.int .i64 (b : Int)) = w.setRow X (nar (fun a => if a = q then b else F a)) := by
  rw [setCell_eq_setRow _ _ _ _ _ _ _ h]
  congr 1
  unfold nar
  rw [List.setIfInBounds_toArray]
  congr 1
  rw [rl_set _ _ _ _ hq]
  congr 1
  funext a
  by_cases e : a = q
  · simp only [if_pos e]
  · simp only [if_neg e]

/-- How often q lies among the first j. -/
def hits (l : List Nat) (q j : Nat) : Nat := cnt (fun i => l.getD i 0 == q) j
theorem hits_zero (l : List Nat) (q : Nat) : hits l q 0 = 0 := rfl
theorem hits_succ (l : List Nat) (q j : Nat) : hits l q (j + 1) = hits l q j + if l.getD j 0 = q then 1 else 0 := by
  unfold hits
  rw [cnt]
  by_cases e : l.getD j 0 = q
  · rw [if_pos e, if_pos (beq_iff_eq.2 e)]
  · rw [if_neg e, if_neg (by rw [beq_eq_false_iff_ne.2 e]; decide)]
theorem hits_idx (p : Nat → Bool) (q : Nat) : ∀ n, hits (idx p n) q (cnt p n) = if p q = true ∧ q < n then 1 else 0
  | 0 => by rw [if_neg (by omega)]; rfl
  | n + 1 => by
    have ih := hits_idx p q n
    have hl := idx_len p n
    by_cases hp : p n = true
    · rw [cnt, if_pos hp, idx, if_pos hp, hits_succ]
      have h1 : hits (idx p n ++ [n]) q (cnt p n) = hits (idx p n) q (cnt p n) := by
        unfold hits
        exact cnt_congr _ (fun j hj => by rw [getD_snoc_left (by omega)])
      rw [h1, ih, ← hl, getD_snoc_end]
      by_cases e : n = q
      · subst e
        rw [if_neg (by omega), if_pos rfl, if_pos ⟨hp, by omega⟩]
      · rw [if_neg e]
        by_cases h2 : p q = true ∧ q < n
        · rw [if_pos h2, if_pos ⟨h2.1, by omega⟩]
        · rw [if_neg h2, if_neg (fun h3 => h2 ⟨h3.1, by omega⟩)]
    · rw [cnt, if_neg hp, idx, if_neg hp, Nat.add_zero, ih]
      by_cases h2 : p q = true ∧ q < n
      · rw [if_pos h2, if_pos ⟨h2.1, by omega⟩]
      · rw [if_neg h2, if_neg (fun h3 => h2 ⟨h3.1, by
          by_cases e : q = n
          · rw [e] at h3; exact absurd h3.1 hp
          · omega⟩)]
/-- How often q lies in the first m lists. -/
def tot (L : List (List Nat)) (q : Nat) : Nat → Nat
  | 0 => 0
  | m + 1 => tot L q m + hits (L.getD m []) q (L.getD m []).length
theorem tot_snoc (L : List (List Nat)) (x : List Nat) (q : Nat) : ∀ m, m ≤ L.length → tot (L ++ [x]) q m = tot L q m
  | 0, _ => rfl
  | m + 1, h => by
    rw [tot, tot, tot_snoc L x q m (by omega)]
    have : (L ++ [x]).getD m [] = L.getD m [] := by
      rw [List.getD_eq_getElem?_getD, List.getD_eq_getElem?_getD, List.getElem?_append_left (by omega)]
    rw [this]
theorem tot_all (L : List (List Nat)) (x : List Nat) (q : Nat) : tot (L ++ [x]) q (L ++ [x]).length = tot L q L.length + hits x q x.length := by
  rw [List.length_append, List.length_singleton, tot, tot_snoc _ _ _ _ (Nat.le_refl _)]
  have : (L ++ [x]).getD L.length [] = x := by
    rw [List.getD_eq_getElem?_getD, List.getElem?_append_right (Nat.le_refl _)]
    simp
  rw [this]
theorem cnt_one {p : Nat → Bool} {r : Nat} : ∀ n, r < n → p r = true → (∀ j, j < n → p j = true → j = r) → cnt p n = 1
  | 0, h, _, _ => absurd h (by omega)
  | n + 1, h, hp, hu => by
    rw [cnt]
    by_cases e : r = n
    · subst e
      rw [if_pos hp]
      have : cnt p r = 0 := by
        rcases Nat.eq_zero_or_pos (cnt p r) with e | e
        · exact e
        · obtain ⟨j, hj, hpj⟩ := cnt_pos r e
          have := hu j (by omega) hpj
          omega
      omega
    · rw [cnt_one n (by omega) hp (fun j hj hj2 => hu j (by omega) hj2)]
      by_cases hn : p n = true
      · exact absurd (hu n (by omega) hn).symm e
      · rw [if_neg hn]
/-- The lists: the orphans, and behind them what each person below k owns. -/
noncomputable def lsts (d : Dy) (l : List Sw) (t : Int) : Nat → List (List Nat)
  | 0 => [idx (orphB d l t) d.k.length]
  | k + 1 => if kd d k = 1 then lsts d l t k ++ [idx (ownB d l t (k : Int)) d.k.length] else lsts d l t k
theorem lsts_tot (d : Dy) (l : List Sw) (t : Int) (q : Nat) (hq : q < d.k.length) : ∀ k, tot (lsts d l t k) q (lsts d l t k).length = (if orphB d l t q then 1 else 0) + cnt (fun r => kd d r == 1 && ownB d l t (r : Int) q) k
  | 0 => by
    show 0 + hits (idx (orphB d l t) d.k.length) q (idx (orphB d l t) d.k.length).length = _
    rw [idx_len, hits_idx, Nat.zero_add, cnt, Nat.add_zero]
    by_cases h : orphB d l t q = true
    · rw [if_pos ⟨h, hq⟩, if_pos h]
    · rw [if_neg (fun h2 => h h2.1), if_neg h]
  | k + 1 => by
    have ih := lsts_tot d l t q hq k
    have e1 : (if ownB d l t (k : Int) q = true ∧ q < d.k.length then 1 else 0) = (if ownB d l t (k : Int) q = true then 1 else 0) := by
      by_cases h2 : ownB d l t (k : Int) q = true
      · rw [if_pos ⟨h2, hq⟩, if_pos h2]
      · rw [if_neg (fun h3 => h2 h3.1), if_neg h2]
    rw [lsts, cnt]
    by_cases h : kd d k = 1
    · have e2 : (kd d k == 1 && ownB d l t (k : Int) q) = ownB d l t (k : Int) q := by rw [beq_iff_eq.2 h, Bool.true_and]
      rw [if_pos h, tot_all, ih, idx_len, hits_idx, e1, e2]; omega
    · have e2 : (kd d k == 1 && ownB d l t (k : Int) q) = false := by rw [beq_eq_false_iff_ne.2 h, Bool.false_and]
      rw [if_neg h, ih, e2, if_neg (show ¬ false = true by decide)]; omega
theorem fp_spec {d : Dy} {c : List Nat} {r : Nat} (h : fp d c = some r) : r ∈ c ∧ kd d r = 1 := by
  unfold fp at h
  exact ⟨List.mem_of_find?_eq_some h, beq_iff_eq.1 (List.find?_some (p := fun q => kd d q == 1) h)⟩
theorem once {d : Dy} {l : List Sw} {t : Int} (hw : ∀ q, q < d.k.length → ∃ c, Wy (fun y => stw l y t) d.k.length q c) (q : Nat) (hq : q < d.k.length) :
    tot (lsts d l t d.k.length) q (lsts d l t d.k.length).length = 1 := by
  rw [lsts_tot _ _ _ _ hq]
  obtain ⟨c, hc⟩ := hw q hq
  have ho : onr d l t q = fp d c := by unfold onr; rw [hc.eq]
  cases hf : fp d c with
  | none =>
    rw [hf] at ho
    have h1 : orphB d l t q = true := by unfold orphB; rw [ho]; rfl
    have h2 : cnt (fun r => kd d r == 1 && ownB d l t (r : Int) q) d.k.length = 0 := by
      rcases Nat.eq_zero_or_pos (cnt (fun r => kd d r == 1 && ownB d l t (r : Int) q) d.k.length) with e | e
      · exact e
      · obtain ⟨j, hj, hpj⟩ := cnt_pos _ e
        unfold ownB at hpj
        rw [ho] at hpj
        simp at hpj
    rw [if_pos h1, h2]
  | some r =>
    rw [hf] at ho
    obtain ⟨hr, hk⟩ := fp_spec hf
    have hrn := hc.lt r hr
    have h1 : ¬ orphB d l t q = true := by unfold orphB; rw [ho]; simp
    rw [if_neg h1, cnt_one (r := r) _ hrn (by unfold ownB; rw [ho, hk]; simp) (fun j hj hpj => by
      unfold ownB at hpj
      rw [ho] at hpj
      simp at hpj
      omega)]
/-- Rows in a row: what each cell leads to. -/
def LsAt (w : World) (B : Nat) (L : List (List Nat)) (xs : List Value) : Prop :=
  xs.length = L.length ∧ ∀ j, j < L.length → ∃ A c, xs[j]? = some (.slice A (L.getD j []).length c) ∧ w.ownsRow B 3 1 (.slice A (L.getD j []).length c) (L.getD j []).length (iv (L.getD j []))
theorem LsAt.below {w w' : World} {B : Nat} {L : List (List Nat)} {xs : List Value} (h : LsAt w B L xs) (hb : Below w.heap.size w w') : LsAt w' B L xs :=
  ⟨h.1, fun j hj => by
    obtain ⟨A, c, h1, h2⟩ := h.2 j hj
    exact ⟨A, c, h1, own_below h2 hb⟩⟩
theorem LsAt.snoc {w w' : World} {B e s n : Nat} {v : Value} {ys xs : List Value} {L : List (List Nat)} {x : List Nat} {A : Option Addr} {c : Nat} (h : LsAt w B L xs) (hv : w.ownsRow B e s v n ys) (he : e ≠ 3) (hg : w.grownBy w' v.ownBlock)
    (hx : w.ownsRow B 3 1 (.slice A x.length c) x.length (iv x)) : LsAt w' B (L ++ [x]) (xs ++ [.slice A x.length c]) := by
  have kp : ∀ {u m zs}, w.ownsRow B 3 1 u m zs → w'.ownsRow B 3 1 u m zs := fun hu => kept_ne hu hg (fun g eg => own_ne hv hu he g eg)
  refine ⟨by simp [h.1], fun j hj => ?_⟩
  simp at hj
  by_cases ej : j = L.length
  · have e1 : (L ++ [x]).getD j [] = x := by
      rw [ej, List.getD_eq_getElem?_getD, List.getElem?_append_right (Nat.le_refl _)]; simp
    rw [e1]
    exact ⟨A, c, by rw [ej, ← h.1, List.getElem?_append_right (Nat.le_refl _)]; simp, kp hx⟩
  · have e1 : (L ++ [x]).getD j [] = L.getD j [] := by
      rw [List.getD_eq_getElem?_getD, List.getD_eq_getElem?_getD, List.getElem?_append_left (by omega)]
    rw [e1]
    obtain ⟨A', c', h1, h2⟩ := h.2 j (by omega)
    exact ⟨A', c', by rw [List.getElem?_append_left (by rw [h.1]; omega)]; exact h1, kp h2⟩
theorem own_person {d : Dy} {l : List Sw} {t : Int} {k q : Nat} (h : ownB d l t (k : Int) q = true) : kd d k = 1 := by
  unfold ownB at h
  rw [Bool.and_eq_true] at h
  cases ho : onr d l t q with
  | none => rw [ho] at h; cases h.1
  | some r =>
    rw [ho] at h
    have h2 := beq_iff_eq.1 h.2
    have h3 : r = k := by simp only [Option.getD_some] at h2; omega
    unfold onr at ho
    rw [← h3]
    exact (fp_spec ho).2
theorem own_self {d : Dy} {l : List Sw} {t : Int} {k : Nat} {c : List Nat} (hc : Wy (fun y => stw l y t) d.k.length k c) (hk : kd d k = 1) : ownB d l t (k : Int) k = true := by
  have ho : onr d l t k = some k := by
    unfold onr
    rw [hc.eq, fp_at (k := 0) hc.ne (by rw [hc.hd]; exact hk) (fun i hi => absurd hi (by omega)), hc.hd]
  unfold ownB
  rw [ho]
  simp

end Go.Proofs.Ytlmpbfijgnkpkaa.Di
