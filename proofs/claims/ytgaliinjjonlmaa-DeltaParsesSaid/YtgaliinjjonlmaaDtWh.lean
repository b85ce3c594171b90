import Derived.Test.YtgaliinjjonlmaaDtOpsM
namespace Go.Proofs.Ytgaliinjjonlmaa.Dt
open Go.RowKit
open Go.Proofs.Ytgaliinjjonlmaa.Tp
set_option linter.unusedVariables false

theorem olies_of {wr : World} {B : Nat} {ps : List (O × Value)} {v : Value} (hrow : wr.ownsRow B 54 3 v ps.length (ocs ps)) (hby' : ∀ p ∈ ps, By wr p.2 p.1.d) : ∃ A c, v = .slice A ps.length c ∧ OLies wr A ps.length (ps.map (·.1)) (ps.map (·.2)) := by
  have hby : ∀ j, j < ps.length → By wr ((ps.map (·.2)).getD j undef) ((ps.map (·.1)).getD j o0).d := by
    intro j hj
    have := hby' ps[j] (List.getElem_mem hj)
    simpa [List.getD_eq_getElem?_getD, hj] using this
  have h := hrow
  rcases h.2 with ⟨rfl, e⟩ | ⟨g, cap, cur, rfl, hb, hh, hnc, hcm, _⟩
  · exact ⟨none, 0, by rw [e], ⟨by simp, by simp, fun h => absurd h (by omega), hby⟩⟩
  · refine ⟨_, _, rfl, ⟨by simp, by simp, fun h0 => ⟨g, 0, rfl, row_lt hh, fun j hj => ?_⟩, hby⟩⟩
    obtain ⟨a1, a2, a3⟩ := ocs_at ps j hj
    rw [Nat.zero_add]
    exact ⟨by rw [hrow.cellAt (j * 3) (by omega), a1], by rw [hrow.cellAt (j * 3 + 1) (by omega), a2], by rw [hrow.cellAt (j * 3 + 2) (by omega), a3]⟩

theorem fit_at {N : Nat} {ps : List (O × Value)} (h : ∀ p ∈ ps, Fit N p) : ∀ j, j < ps.length → VO N ((ps.map (·.1)).getD j o0) ((ps.map (·.2)).getD j undef) := by
  intro j hj
  have := (h ps[j] (List.getElem_mem hj)).1
  simpa [List.getD_eq_getElem?_getD, hj] using this

theorem fit_tot {N : Nat} {ps : List (O × Value)} (h : ∀ p ∈ ps, Fit N p) : ∀ n, n ≤ ps.length → tot (ps.map (·.1)) n ≤ 70 * n
  | 0, _ => by simp [tot]
  | n + 1, hn => by
    have ih := fit_tot h n (by omega)
    have h1 := (h ps[n] (List.getElem_mem (by omega))).2
    have e : (ps.map (·.1)).getD n o0 = (ps[n]'(by omega)).1 := by
      have : n < ps.length := by omega
      simp [List.getD_eq_getElem?_getD, this]
    simp only [tot]
    rw [e]
    omega

theorem ocs_app : ∀ (ps qs : List (O × Value)), ocs (ps ++ qs) = ocs ps ++ ocs qs
  | [], qs => by simp [ocs]
  | p :: ps, qs => by simp [ocs, ocs_app ps qs]

theorem one_cell {w : World} : ∀ {ps : List (O × Value)}, (∀ p ∈ ps, By w p.2 p.1.d) → ∀ u ∈ ocs ps, u.oneCell' = true
  | [], _, u, h => by simp [ocs] at h
  | p :: ps, hb, u, h => by
    rcases List.mem_append.1 h with h | h
    · simp at h
      rcases h with rfl | rfl | rfl
      · rfl
      · rfl
      · obtain ⟨A, c, e⟩ := (hb p (by simp)).form
        rw [e]
        rfl
    · exact one_cell (fun q hq => hb q (by simp [hq])) u h

/-- 'append(out, ops...)': both rows of the call's own, each nil or not. -/
theorem append_ops {ops : Array Oper} {rest : List Oper} {o : Oper} {a : Act} {w : World} {Q : Exit → Act → World → Prop} (hgd : o.guard = none) (s x : Operand)
    (ho : o.op = .call { callee := .builtin .append, args := #[s, x], argTypes := #[24, 24] }) (base base2 : Nat) (v v2 : Value) (xs ps : List (O × Value)) (hs : a.eval s = v) (hx : a.eval x = v2)
    (hown : w.ownsRow base 54 3 v xs.length (ocs xs)) (hsrc : w.ownsRow base2 54 3 v2 ps.length (ocs ps)) (hby : ∀ p ∈ ps, By w p.2 p.1.d) (h63 : xs.length + ps.length ≤ 1000) (hbase : base ≤ w.heap.size)
    (h : ∀ v' w', w'.ownsRow base 54 3 v' (xs ++ ps).length (ocs (xs ++ ps)) → w.grownBy w' v.ownBlock → wpList Try.prog ops Q rest (a.put o.dst v') w') : wpList Try.prog ops Q (o :: rest) a w := by
  obtain ⟨i0, hi, hz0, hz1, hz2⟩ := info_parts5 zinfo54
  rcases hsrc.2 with ⟨rfl, hn⟩ | ⟨g, cap, cur, rfl, hb, hh, _⟩
  · obtain rfl : ps = [] := List.eq_nil_of_length_eq_zero hn
    refine wpList_append_own_none hgd s x 24 ho base 54 i0 3 Try.underlying24 hi v xs.length (ocs xs) hs hown hx (h v w ?_ (World.grownBy.refl _ _))
    simpa using hown
  · refine wpList_append_own _ hgd s x 24 ho base 54 i0 _ 3 40 Try.underlying24 hi hz0 hz1 hz2 rfl (by decide) v xs.length (ocs xs) hs hown ⟨g, 0, none⟩ ps.length cap (ocs ps) hx (ocs_len ps) (hsrc.cells rfl) (one_cell hby) (by unfold maxLen; omega) (by omega) hbase ?_
    intro v' w' k1 k2 _
    rw [← ocs_app, ← List.length_append] at k1
    exact h v' w' k1 k2

/-- Applying a row of operations. -/
theorem row_applies {B : Option Addr} {N cb Bb : Nat} {base : List Nat} {ps : List (O × Value)} {v : Value} {w : World} (hrow : w.ownsRow Bb 54 3 v ps.length (ocs ps)) (hby' : ∀ p ∈ ps, By w p.2 p.1.d) (hfit : ∀ p ∈ ps, Fit N p) (hlen : ps.length ≤ 20)
    (hby : By w (.slice B N cb) base) (hN : base.length = N) (hN2 : N ≤ 1000) : Calls Try.prog 20 #[.slice B N cb, v] w (ARes w (ps.flatMap (fun p => ap base p.1))) := by
  obtain ⟨A, c, e, hol⟩ := olies_of hrow hby'
  subst e
  have ht := fit_tot hfit ps.length (Nat.le_refl _)
  have := apply_any A B ps.length c N cb base _ _ w hol (fit_at hfit) (by omega) (by omega) (by omega) hby hN
  rw [apl_all] at this
  exact this

theorem strB_app (xs ys : List Nat) : strB (xs ++ ys) = strB xs ++ strB ys := by
  apply ByteArray.ext
  rw [ByteArray.data_append]
  apply Array.ext'
  rw [Array.toList_append]
  simp [strB, strOfNums_data]

theorem strB_size (xs : List Nat) : (strB xs).size = xs.length := by
  unfold strB
  rw [strOfNums_size]
  simp

end Go.Proofs.Ytgaliinjjonlmaa.Dt
