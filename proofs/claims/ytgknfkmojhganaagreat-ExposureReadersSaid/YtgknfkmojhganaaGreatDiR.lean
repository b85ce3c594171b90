import Derived.Test.YtgknfkmojhganaaGreatDiP
import Derived.ArgAppend
namespace Go.Proofs.YtgknfkmojhganaaGreat.Di
open Go.RowKit
open Go.Proofs.YtgknfkmojhganaaGreat.Tp
set_option linter.unusedVariables false

theorem cnt_none {p : Nat → Bool} {n : Nat} (h : ∀ j, j < n → p j = false) : cnt p n = 0 ∧ idx p n = [] := by
  have hc : cnt p n = 0 := by
    rcases Nat.eq_zero_or_pos (cnt p n) with e | e
    · exact e
    · obtain ⟨j, hj, hp⟩ := cnt_pos n e
      rw [h j hj] at hp; cases hp
  refine ⟨hc, List.length_eq_zero_iff.1 ?_⟩
  rw [idx_len, hc]
theorem gB_iff (d : Dy) (p : Nat) : gB d p = true ↔ p < d.k.length ∧ kd d p = 2 := by unfold gB; simp


/-- A queue: a slice of one-cell elements somewhere in a row of the call's own. -/
structure Qu (w : World) (B e g off n cap : Nat) (xs : List Value) : Prop where
  base : B ≤ g
  le : n ≤ cap
  len : xs.length = n
  row : ∃ cur, w.heap[g]? = some (.cells cur e (0, 0)) ∧ off + cap ≤ cur.size ∧ ∀ j u, xs[j]? = some u → cur[off + j]? = some u
theorem Qu.lt {w : World} {B e g off n cap : Nat} {xs : List Value} (h : Qu w B e g off n cap xs) : g < w.heap.size := by
  obtain ⟨cur, h1, -⟩ := h.row
  exact row_lt h1
theorem Qu.cell {w : World} {B e g off n cap : Nat} {xs : List Value} (h : Qu w B e g off n cap xs) {j : Nat} {u : Value} (hj : xs[j]? = some u) : w.cell? ⟨g, off + j, none⟩ = some u := by
  obtain ⟨cur, h1, -, h2⟩ := h.row
  rw [cell_of_row _ _ _ _ _ _ h1]
  exact h2 j u hj
theorem Qu.keep {w w' : World} {B e g off n cap : Nat} {xs : List Value} {row : Option Nat} (h : Qu w B e g off n cap xs) (hg : w.grownBy w' row) (hn : row ≠ some g) : Qu w' B e g off n cap xs := by
  have hl := h.lt
  obtain ⟨cur, h1, h2, h3⟩ := h.row
  exact ⟨h.base, h.le, h.len, cur, (hg.block g hl (fun e => hn e.symm)).trans h1, h2, h3⟩
theorem Qu.tail {w : World} {B e g off n cap : Nat} {xs : List Value} (h : Qu w B e g off n cap xs) (hn : 0 < n) : Qu w B e g (if cap = 1 then off else off + 1) (n - 1) (cap - 1) (xs.drop 1) := by
  obtain ⟨cur, h1, h2, h3⟩ := h.row
  have hle := h.le
  have hlen := h.len
  refine ⟨h.base, by omega, by simp; omega, cur, h1, ?_, fun j u hj => ?_⟩
  · split <;> omega
  · by_cases e : cap = 1
    · have : j < (xs.drop 1).length := (List.getElem?_eq_some_iff.1 hj).1
      simp at this
      omega
    · rw [if_neg e]
      rw [List.getElem?_drop] at hj
      have := h3 _ _ hj
      rwa [show off + (1 + j) = off + 1 + j by omega] at this
theorem qu_run {P : Program} (w : World) (B : Nat) (t ty e : TypeId) (i : TypeInfo) (z : Value) (bytes : Nat) (ht : P.underlying t = some (.slice e)) (hi : P.info? e = some i) (hz : i.zero = some z) (hs : i.size = 1) (hb : i.bytes = bytes) (hzs : z.cells.size = 1) (hby : bytes ≤ 1000)
    {g off n cap : Nat} {xs : List Value} (h : Qu w B e g off n cap xs) (hbase : B ≤ w.heap.size) (hn : n ≤ 1000) (ad : Addr) (c : Nat) (x : Value) (hx : ∀ j u, [x][j]? = some u → w.cell? (ad.add j) = some u) (h1 : x.oneCell' = true) :
    ∃ g' off' cap' w', (Builtin.append_ #[t, t] ty #[.slice (some ⟨g, off, none⟩) n cap, .slice (some ad) 1 c]).run P w = .ok (.slice (some ⟨g', off', none⟩) (n + 1) cap') w' ∧
      Qu w' B e g' off' (n + 1) cap' (xs ++ [x]) ∧ w.grownBy w' (some g) ∧ (g' = g ∨ w.heap.size ≤ g') := by
  obtain ⟨cur, q1, q2, q3⟩ := h.row
  have hle := h.le
  have hlen := h.len
  have h1' : ∀ u ∈ [x], u.oneCell' = true := fun u hu => by
    rw [List.mem_singleton] at hu; rw [hu]; exact h1
  by_cases hr : n + 1 ≤ cap
  · have hp : off + n < cur.size := by omega
    have hrun := run_append_room_cells (P := P) w t ty e i ht hi g off n cap ad 1 c [x] (by rw [hs]; rfl) hx h1' hr (fun j hj => by
      simp at hj; subst hj
      rw [hs, cell_of_row _ _ _ _ _ _ q1, Nat.mul_one, Nat.add_zero]
      simp [hp]) (fun j hj => frozen_of_row _ _ _ _ _ q1)
    have hw : w.setCells g (off + n * i.size) [x] = w.setCell ⟨g, off + n, none⟩ x := by
      rw [hs, Nat.mul_one]; rfl
    rw [hw] at hrun
    refine ⟨g, off, cap, _, hrun, ⟨h.base, hr, by simp [hlen], cur.setIfInBounds (off + n) x, ?_, by simpa using q2, fun j u hj => ?_⟩, gb_set _ _ _ _, .inl rfl⟩
    · rw [setCell_eq_setRow _ _ _ _ _ _ _ q1]
      exact setRow_heap _ _ _ _ _ _ q1
    · by_cases e : j = n
      · subst e
        rw [List.getElem?_append_right (by omega), hlen, Nat.sub_self] at hj
        cases hj
        rw [Array.getElem?_setIfInBounds]
        simp [hp]
      · have hjl : j < (xs ++ [x]).length := (List.getElem?_eq_some_iff.1 hj).1
        simp at hjl
        rw [List.getElem?_append_left (by omega)] at hj
        rw [Array.getElem?_setIfInBounds, if_neg (by omega)]
        exact q3 j u hj
  · obtain ⟨v', w', hrun, r1, r2⟩ := run_append_arg_grows (P := P) w t ty e i z 1 bytes ht hi hz hs hb hzs (by omega) ⟨g, off, none⟩ n cap xs (by omega) (fun j u hj => by rw [Addr.add_lit]; exact h.cell hj) ad 1 c [x] (by simp) hx (by omega) (by unfold maxLen; omega) (by have := Nat.mul_le_mul (show n + 1 ≤ 1001 by omega) hby; omega)
    rcases r1.2 with ⟨_, h0⟩ | ⟨g', cap', cur', hv, hB, hh, hnc, hcm, hcs, htk⟩
    · omega
    · refine ⟨g', 0, cap', w', by rw [hv] at hrun; exact hrun, ⟨by omega, hnc, by simp [hlen], cur', hh, by omega, fun j u hj => ?_⟩, ⟨r2.os, r2.tape, r2.output, r2.size, fun k hk _ => r2.block k hk (by simp)⟩, .inr hB⟩
      rw [← htk] at hj
      have hjl := (List.getElem?_eq_some_iff.1 hj).1
      rw [List.length_take] at hjl
      rw [List.getElem?_take_of_lt (by omega)] at hj
      rw [Nat.zero_add]
      simpa using hj
theorem qu_list {P : Program} {ops : Array Oper} {rest : List Oper} {o : Oper} {a : Act} {w : World} {Q : Exit → Act → World → Prop} (hgd : o.guard = none) (s y : Operand) (B : Nat) (t e : TypeId) (ho : o.op = .call { callee := .builtin .append, args := #[s, y], argTypes := #[t, t] }) (i : TypeInfo) (z : Value) (bytes : Nat) (ht : P.underlying t = some (.slice e)) (hi : P.info? e = some i) (hz : i.zero = some z) (hs : i.size = 1) (hb : i.bytes = bytes) (hzs : z.cells.size = 1) (hby : bytes ≤ 1000)
    {g off n cap : Nat} {xs : List Value} (hv : a.eval s = .slice (some ⟨g, off, none⟩) n cap) (h : Qu w B e g off n cap xs) (hbase : B ≤ w.heap.size) (hn : n ≤ 1000) (ad : Addr) (c : Nat) (x : Value) (hx : a.eval y = .slice (some ad) 1 c) (hnews : ∀ j u, [x][j]? = some u → w.cell? (ad.add j) = some u) (h1 : x.oneCell' = true)
    (hk : ∀ g' off' cap' w', Qu w' B e g' off' (n + 1) cap' (xs ++ [x]) → w.grownBy w' (some g) → (g' = g ∨ w.heap.size ≤ g') → wpList P ops Q rest (a.put o.dst (.slice (some ⟨g', off', none⟩) (n + 1) cap')) w') : wpList P ops Q (o :: rest) a w :=
  wpList_plain hgd fun K hK => by
    obtain ⟨g', off', cap', w', h2, h3, h4, h5⟩ := qu_run (P := P) w B t o.type e i z bytes ht hi hz hs hb hzs hby h hbase hn ad c x hnews h1
    unfold Oper.wp execOp
    simp only [ho, resolve, invoke, builtin, Sem.run_bind, Sem.run_pure, Result.andThen_ok, List.map_toArray, List.map_cons, List.map_nil, hv, hx, h2]
    exact hK _ _ (hk g' off' cap' w' h3 h4 h5)

end Go.Proofs.YtgknfkmojhganaaGreat.Di
