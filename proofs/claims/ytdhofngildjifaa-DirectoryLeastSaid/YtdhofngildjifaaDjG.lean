import Derived.Test.YtdhofngildjifaaDjF
import Derived.StillTailTactics
import Derived.Deep.CutBlock
namespace Go.Proofs.Ytdhofngildjifaa.Di
open Go.RowKit
open Go.Proofs.Ytdhofngildjifaa.Tp
set_option linter.unusedVariables false

theorem len_addm (d : Dy) (x : Mb) : (addm d x).k.length = d.k.length := rfl
theorem kd_addm (d : Dy) (x : Mb) (p : Nat) : kd (addm d x) p = kd d p := rfl
/-- One event more at the time of the last one, or later. -/
theorem addm_ok {d : Dy} (h : Mk d) {t k p g : Nat} (ht : lastT d ≤ t) (ht2 : t ≤ 100000) (hk : k = 1 ∨ k = 2) (hp : p < d.k.length) (hg : g < d.k.length) (h2 : kd d g = 2) (hne : p ≠ g) : Ok (addm d ⟨t, k, p, g⟩) :=
  h.ok.add ⟨hk, by show t ≤ 1099511627776; omega, hp, hg, h2, hne⟩ (by have := h.e11; omega) (fun j hj => Nat.le_trans (le_last h.ok hj) ht)
theorem last_le {d : Dy} (h : Mk d) : lastT d ≤ 1000 := by
  unfold lastT
  by_cases e : d.e.length = 0
  · rw [if_pos e]; omega
  · rw [if_neg e]; exact h.t _ (by omega)
/-- With an event more, as it stands in memory. -/
theorem addm_row {w : World} {B : Nat} {d : Dy} {v : Vd} (x : Mb) {A' : Option Addr} {c' : Nat} (h : DL w B d v) (hr : Row w B 4 A' (d.e.length + 1) (ev (d.e ++ [x]))) : DL w B (addm d x) ⟨v.A1, v.c1, A', c'⟩ :=
  ⟨h.r1, by rw [addm_len]; exact hr⟩
theorem gd_addm (d : Dy) (v : Vd) (x : Mb) (A' : Option Addr) (c' : Nat) : gd (addm d x) ⟨v.A1, v.c1, A', c'⟩ = #[.slice v.A1 d.k.length v.c1, .slice A' (d.e.length + 1) c'] := by
  unfold gd
  rw [addm_len]
  rfl

theorem row_ne {w : World} {B n Q : Nat} {A : Option Addr} {l : List Nat} {s1 s2 : Option Addr} {n1 c1 n2 c2 : Nat} {t : TypeId} {fr : Nat × Nat} (h : Row w B 1 A n (iv l)) (hQ : w.heap[Q]? = some (.cells #[.slice s1 n1 c1, .slice s2 n2 c2] t fr)) : ∀ b off, 0 < n → A = some ⟨b, off, none⟩ → b ≠ Q := fun b off h0 e hb => by
  obtain ⟨b', off', e', -, -, y⟩ := h.int h0
  rw [e] at e'
  cases e'
  subst hb
  rw [cell_of_row _ _ _ _ _ _ hQ] at y
  match off with
  | 0 => simp at y
  | 1 => simp at y
  | k + 2 => simp at y
/-- A box's second cell is stored into: the rows of numbers stay. -/
theorem addm_dl {w6 : World} {B Q : Nat} {d : Dy} {v : Vd} {x : Mb} {A' : Option Addr} {c' : Nat} (h : DL w6 B d v) (hQ : w6.heap[Q]? = some (.cells (gd d v) 25 (0, 0))) (hr : w6.ownsRow (Q + 1) 52 4 (.slice A' (d.e.length + 1) c') (d.e.length + 1) (ev (d.e ++ [x]))) :
    DL (w6.setRow Q #[.slice v.A1 d.k.length v.c1, .slice A' (d.e.length + 1) c']) 0 (addm d x) ⟨v.A1, v.c1, A', c'⟩ :=
  addm_row x (v := v) ⟨(h.r1.base (Nat.zero_le _)).setq (row_ne h.r1 hQ) _, h.r2.base (Nat.zero_le _) |>.setq (fun b off h0 e hb => by
    obtain ⟨b', off', e', -, -, y, -⟩ := h.r2.evt h0
    rw [e] at e'
    cases e'
    subst hb
    rw [Nat.zero_mul, Nat.add_zero, cell_of_row _ _ _ _ _ _ hQ] at y
    unfold gd at y
    match off with
    | 0 => simp at y
    | 1 => simp at y
    | k + 2 => simp at y) _⟩ (((row_of_own hr).set (Nat.lt_succ_self _) _).base (Nat.zero_le _))
/-- Who has left is not directly in it; and is in it only through another one. -/
theorem left_no {d : Dy} {t p g : Nat} : dm (addm d ⟨t, 2, p, g⟩) t p g = false := by
  rw [dm_add, if_pos ((hitm_iff _ _ _ _).2 ⟨Nat.le_refl _, rfl, rfl⟩)]
  rfl
theorem at_idx {p : Nat → Bool} {n j : Nat} (hj : j < cnt p n) : (idx p n).getD j 0 < n ∧ p ((idx p n).getD j 0) = true := by
  rw [← idx_len] at hj
  have hm : (idx p n).getD j 0 ∈ idx p n := by
    rw [List.getD_eq_getElem?_getD, List.getElem?_eq_getElem hj]
    exact List.getElem_mem hj
  exact (idx_mem _ _ _).1 hm
theorem by_in {d : Dy} (h : Ok d) {t p g : Nat} (hp : p < d.k.length) (hne : p ≠ g) (hn : dm d t p g = false) :
    anyB (fun j => (idx (fun q => dm d t q g) d.k.length).getD j 0 != p && inB d t p ((idx (fun q => dm d t q g) d.k.length).getD j 0)) (cnt (fun q => dm d t q g) d.k.length) = inB d t p g := by
  rw [Bool.eq_iff_iff, any_iff, inB_iff, in_by h hp hne hn]
  constructor
  · rintro ⟨j, hj, hb⟩
    rw [Bool.and_eq_true, inB_iff] at hb
    obtain ⟨h1, h2⟩ := at_idx hj
    exact ⟨_, h1, h2, bne_iff_ne.1 hb.1, hb.2⟩
  · rintro ⟨u, hu, hm, hup, hin⟩
    obtain ⟨j, hj, e⟩ := List.getElem_of_mem ((idx_mem (fun q => dm d t q g) u d.k.length).2 ⟨hu, hm⟩)
    refine ⟨j, by rw [← idx_len]; exact hj, ?_⟩
    have e2 : (idx (fun q => dm d t q g) d.k.length).getD j 0 = u := by rw [List.getD_eq_getElem?_getD, List.getElem?_eq_getElem hj]; exact e
    rw [e2, Bool.and_eq_true, inB_iff]
    exact ⟨bne_iff_ne.2 hup, hin⟩

end Go.Proofs.Ytdhofngildjifaa.Di
