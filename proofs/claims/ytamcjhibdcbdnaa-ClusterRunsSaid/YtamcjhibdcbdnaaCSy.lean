import Derived.Test.YtamcjhibdcbdnaaCFr
namespace Go.Proofs.Ytamcjhibdcbdnaa.Cl
open Go.RowKit
open Go.Proofs.Ytamcjhibdcbdnaa.Tp
set_option linter.unusedVariables false

/-! ### Replicas are synced, one after another -/

/-- The cluster behind a sync. -/
def sy1 (c : Cl) (i : Nat) : Cl := ⟨c.f, c.s, c.r.set i (c.s.length - 1, true), c.p⟩
theorem ap_sync (c : Cl) (i : Nat) : ap c ⟨2, i, 0, 0⟩ = sy1 c i := by
  rw [ap, if_neg (by simp), if_pos rfl]
  rfl
def sy (c : Cl) (M : List Nat) : Nat → Cl
  | 0 => c
  | k + 1 => sy1 (sy c M k) (M.getD k 0)

theorem sy_s (c : Cl) (M : List Nat) : ∀ k, (sy c M k).s = c.s
  | 0 => rfl
  | k + 1 => sy_s c M k
theorem sy_f (c : Cl) (M : List Nat) : ∀ k, (sy c M k).f = c.f
  | 0 => rfl
  | k + 1 => sy_f c M k
theorem sy_p (c : Cl) (M : List Nat) : ∀ k, (sy c M k).p = c.p
  | 0 => rfl
  | k + 1 => sy_p c M k
theorem sy_r (c : Cl) (M : List Nat) : ∀ k, (sy c M k).r.length = c.r.length
  | 0 => rfl
  | k + 1 => by
    show ((sy c M k).r.set _ _).length = _
    rw [List.length_set, sy_r c M k]

theorem good_sync {c : Cl} {i : Nat} (h : i < c.r.length) : Good c ⟨2, i, 0, 0⟩ := .inr (.inl ⟨rfl, h, rfl, rfl⟩)
theorem fit_sync (c : Cl) (i : Nat) : fitB c ⟨2, i, 0, 0⟩ = true := by simp [fitB]

theorem ok_sy {m : Nat} {c : Cl} (h : Ok m c) {i : Nat} (hi : i < c.r.length) : Ok (m + 1) (sy1 c i) := by
  rw [← ap_sync]
  exact ok_ap h (good_sync hi) (fit_sync c i)
theorem ok_sys {m : Nat} {c : Cl} {M : List Nat} (h : Ok m c) (hM : ∀ j, j < M.length → M.getD j 0 < c.r.length) : ∀ k, k ≤ M.length → Ok (m + k) (sy c M k)
  | 0, _ => h
  | k + 1, hk => ok_sy (ok_sys h hM k (by omega)) (by rw [sy_r]; exact hM k (by omega))

theorem sy1_rd {c : Cl} {i : Nat} (hi : i < c.r.length) (j : Nat) : rd (sy1 c i).r j = if j = i then (c.s.length - 1, true) else rd c.r j := rd_set _ _ _ _ hi

/-- Each replica is as it was, or synced; and those of the list are synced. -/
theorem sy_rd {c : Cl} {M : List Nat} (hM : ∀ j, j < M.length → M.getD j 0 < c.r.length) : ∀ k, k ≤ M.length →
    (∀ i, rd (sy c M k).r i = rd c.r i ∨ rd (sy c M k).r i = (c.s.length - 1, true)) ∧ ∀ j, j < k → rd (sy c M k).r (M.getD j 0) = (c.s.length - 1, true)
  | 0, _ => ⟨fun i => .inl rfl, fun j h => absurd h (by omega)⟩
  | k + 1, hk => by
    obtain ⟨h1, h2⟩ := sy_rd hM k (by omega)
    have hi : M.getD k 0 < (sy c M k).r.length := by rw [sy_r]; exact hM k (by omega)
    have e : ∀ j, rd (sy c M (k + 1)).r j = if j = M.getD k 0 then (c.s.length - 1, true) else rd (sy c M k).r j := fun j => by
      rw [← sy_s c M k]
      exact sy1_rd hi j
    refine ⟨fun i => ?_, fun j hj => ?_⟩
    · rw [e]
      split
      · exact .inr rfl
      · exact h1 i
    · rw [e]
      split
      · rfl
      · rename_i hne
        have : j ≠ k := fun h => hne (by rw [h])
        exact h2 j (by omega)

theorem ms_lt (c : Cl) (l : List En) : ∀ n j, j < (ms c l n).length → (ms c l n).getD j 0 < n
  | 0, j, h => absurd h (by simp [ms])
  | n + 1, j, h => by
    rw [ms] at h ⊢
    by_cases hf : fnd c l n = true
    · rw [if_pos hf] at h ⊢
      have := ms_lt c l n j h
      omega
    · rw [if_neg hf] at h ⊢
      by_cases hj : j < (ms c l n).length
      · rw [gd_left _ _ _ hj]
        have := ms_lt c l n j hj
        omega
      · have e : j = (ms c l n).length := by simp at h; omega
        rw [e, gd_end]
        omega
theorem ms_mem (c : Cl) (l : List En) : ∀ n i, i < n → fnd c l i = false → ∃ j, j < (ms c l n).length ∧ (ms c l n).getD j 0 = i
  | 0, i, h, _ => absurd h (by omega)
  | n + 1, i, h, hf => by
    rw [ms]
    by_cases e : i = n
    · subst e
      rw [if_neg (by rw [hf]; decide)]
      exact ⟨(ms c l i).length, by simp, gd_end _ _⟩
    · obtain ⟨j, h1, h2⟩ := ms_mem c l n i (by omega) hf
      by_cases hn : fnd c l n = true
      · rw [if_pos hn]
        exact ⟨j, h1, h2⟩
      · rw [if_neg hn]
        exact ⟨j, by simp; omega, by rw [gd_left _ _ _ h1]; exact h2⟩

theorem sO_eq {c d : Cl} (h : d.s = c.s) : sO d = sO c ∧ sS d = sS c := by unfold sO sS; rw [h]; exact ⟨rfl, rfl⟩
theorem acc_eq {c d : Cl} {i b : Nat} (h : d.s = c.s) (hr : rd d.r i = rd c.r i) : acc d i b = acc c i b := by unfold acc; rw [h, hr]

/-- A replica that has been synced is found, if the newest set has not the bit. -/
theorem fnd_synced {m : Nat} {c : Cl} (h : Ok m c) (hso : sO c = true) {i : Nat} (hi : i < c.r.length) (hr : rd c.r i = (c.s.length - 1, true)) : fnd c (ans c c.r.length) i = true := by
  have h1 := h.s1
  refine (fnd_iff c _ i).2 ⟨i, by rw [ans_len]; exact hi, hso, ?_⟩
  rw [ans_at _ _ _ hi]
  have hn : has (c.s.getD (c.s.length - 1) 0) 1 = false := (so_iff h).1 hso
  have ha : acc c i 1 = false := by unfold acc; rw [hr]; exact hn
  have hle : sS c ≤ c.s.length - 1 := by
    have hne : sn c.s c.s.length ≠ c.s.length := by
      intro e
      unfold sO at hso
      rw [e] at hso
      simp at hso
    have := sn_le c.s c.s.length
    rw [so_ss hso]
    omega
  refine ⟨rfl, ?_, ?_, ?_⟩
  · show (!acc c i 1) = true
    rw [ha]; rfl
  · show sS c ≤ (rd c.r i).1
    rw [hr]; exact hle
  · show (rd c.r i).1 < c.s.length
    rw [hr]; show c.s.length - 1 < c.s.length; omega

/-- When all that are missing are synced, nothing is. -/
theorem synced_enough {m : Nat} {c : Cl} (h : Ok m c) (hso : sO c = true) (M : List Nat) (hM : M = ms c (ans c c.r.length) c.r.length) :
    enough (sy c M M.length) (ans (sy c M M.length) (sy c M M.length).r.length) = true := by
  have hlt : ∀ j, j < M.length → M.getD j 0 < c.r.length := fun j hj => by rw [hM] at hj ⊢; exact ms_lt _ _ _ _ hj
  have hok := ok_sys h hlt M.length (Nat.le_refl _)
  obtain ⟨h1, h2⟩ := sy_rd hlt M.length (Nat.le_refl _)
  have hs := sy_s c M M.length
  have hr := sy_r c M M.length
  generalize sy c M M.length = d at *
  obtain ⟨e1, e2⟩ := sO_eq hs
  refine enough_of (fun i hi => ?_)
  have hi' : i < c.r.length := by omega
  have synced : rd d.r i = (c.s.length - 1, true) → fnd d (ans d d.r.length) i = true := fun e => fnd_synced hok (by rw [e1]; exact hso) hi (by rw [e, hs])
  cases hf : fnd c (ans c c.r.length) i with
  | false =>
    obtain ⟨j, hj, hji⟩ := ms_mem c _ _ i hi' hf
    rw [← hM] at hj hji
    have := h2 j hj
    rw [hji] at this
    exact synced this
  | true =>
    rcases h1 i with hk | hk
    · obtain ⟨j, hj, hso', hri, hfi, hg1, hg2⟩ := (fnd_iff c _ i).1 hf
      rw [ans_len] at hj
      rw [ans_at _ _ _ hj] at hri hfi hg1 hg2
      have ej : j = i := hri
      subst ej
      refine (fnd_iff d _ j).2 ⟨j, by rw [ans_len]; exact hi, by rw [e1]; exact hso, ?_⟩
      rw [ans_at _ _ _ hi]
      refine ⟨rfl, ?_, ?_, ?_⟩
      · show (!acc d j 1) = true
        rw [acc_eq hs hk]; exact hfi
      · show sS d ≤ (rd d.r j).1
        rw [hk, e2]; exact hg1
      · show (rd d.r j).1 < d.s.length
        rw [hk, hs]; exact hg2
    · exact synced hk

end Go.Proofs.Ytamcjhibdcbdnaa.Cl
