import Derived.Test.YtdhofngildjifaaDjG
namespace Go.Proofs.Ytdhofngildjifaa.Di
open Go.RowKit
open Go.Proofs.Ytdhofngildjifaa.Tp
set_option linter.unusedVariables false

theorem reach_congr {M M' : Nat → Nat → Bool} {n p q : Nat} (h : ∀ a b, M a b = M' a b) : Reach M n p q ↔ Reach M' n p q :=
  ⟨reach_mono (fun a b e => by rw [← h]; exact e), reach_mono (fun a b e => by rw [h]; exact e)⟩
theorem mem_later {d : Dy} {x : Mb} {t u : Nat} (h : t < x.t) (q : Nat) : memB (addm d x) t u q = memB d t u q := by
  have e : upB (addm d x) t q u = upB d t q u := by
    rw [Bool.eq_iff_iff, upB_iff, upB_iff]
    unfold Rc
    rw [len_addm, reach_congr (fun a b => dm_later h)]
  unfold memB
  rw [e]
  rfl
theorem mem_more {d : Dy} (hok : Ok d) {p g u q : Nat} (h : memB d (lastT d) u q = true) : memB (addm d ⟨lastT d + 1, 1, p, g⟩) (lastT d + 1) u q = true := by
  unfold memB at h ⊢
  rw [Bool.and_eq_true, Bool.and_eq_true, upB_iff] at h ⊢
  refine ⟨h.1, h.2.1, h.2.2.1, ?_⟩
  refine reach_mono (fun a b e => ?_) h.2.2.2
  refine dm_more (x := ⟨lastT d + 1, 1, p, g⟩) rfl ?_
  rw [dm_after hok (Nat.le_succ _) (Nat.le_refl _)]
  exact e
theorem in_new {d : Dy} {t p g : Nat} (hp : p < d.k.length) (hg : g < d.k.length) (h2 : kd d g = 2) (hne : p ≠ g) : inB (addm d ⟨t, 1, p, g⟩) t p g = true :=
  inB_yes ⟨hp, hg, h2, hne, .step .here hp hg (by rw [dm_add, if_pos ((hitm_iff _ _ _ _).2 ⟨Nat.le_refl _, rfl, rfl⟩)]; rfl)⟩
/-- A box of a directory is stored into: other directories' rows stay. -/
theorem keep_dl {w6 : World} {B Q : Nat} {d : Dy} {v : Vd} {d1 : Dy} {v1 : Vd} (cs : Array Value) (h : DL w6 B d v) (hQ : w6.heap[Q]? = some (.cells (gd d1 v1) 25 (0, 0))) : DL (w6.setRow Q cs) 0 d v :=
  ⟨(h.r1.base (Nat.zero_le _)).setq (row_ne h.r1 hQ) _, h.r2.base (Nat.zero_le _) |>.setq (fun b off h0 e hb => by
    obtain ⟨b', off', e', -, -, y, -⟩ := h.r2.evt h0
    rw [e] at e'
    cases e'
    subst hb
    rw [Nat.zero_mul, Nat.add_zero, cell_of_row _ _ _ _ _ _ hQ] at y
    unfold gd at y
    match off with
    | 0 => simp at y
    | 1 => simp at y
    | k + 2 => simp at y) _⟩

end Go.Proofs.Ytdhofngildjifaa.Di
