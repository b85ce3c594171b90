import Derived.Test.YtamcjhibdcbdnaaCAwk
import Derived.ProofKit
import Derived.OpenShut
import Derived.ShutString
import Derived.ChangeOld
namespace Go.Proofs.Ytamcjhibdcbdnaa.Cl
open Go.RowKit
open Go.Proofs.Ytamcjhibdcbdnaa.Tp
set_option linter.unusedVariables false

theorem own : ownKnob Try.prog.godebug = none := by kernel_rfl
theorem laidOut : laidOutB Try.prog = true := by kernel_rfl

/-- A slice of integers that came in: nil, or a row of 'cap' cells. -/
def IsRow (k : IntKind) (w : World) (a : Option Addr) (len cap : Nat) (zs : List Int) : Prop :=
  (a = none ∧ len = 0 ∧ cap = 0 ∧ zs = []) ∨
  ∃ x, a = some x ∧ len ≤ cap ∧ cap ≤ maxLen ∧ zs.length = cap ∧ (∀ i, i < zs.length → w.cell? (x.add i) = some (.int k (zs.getD i 0))) ∧ ∀ n ∈ zs, (Lit.int k n).wf = true

theorem IsRow.at_ {k : IntKind} {w : World} {a : Option Addr} {len cap : Nat} {zs : List Int} (h : IsRow k w a len cap zs) :
    len ≤ maxLen ∧ (0 < len → ∃ b off, a = some ⟨b, off, none⟩ ∧ b < w.heap.size ∧ ∀ j, j < len → w.cell? ⟨b, off + j, none⟩ = some (.int k (zs.getD j 0))) := by
  rcases h with ⟨rfl, rfl, rfl, rfl⟩ | ⟨x, rfl, hl, hm, hz, hc, hw⟩
  · exact ⟨by unfold maxLen; omega, fun h => absurd h (by omega)⟩
  · refine ⟨by omega, fun h0 => ?_⟩
    obtain ⟨b, off, spot⟩ := x
    have hc0 := hc 0 (by omega)
    have hspot : spot = none := by simpa [Addr.add] using World.cell?_spot hc0
    subst hspot
    have hlt : b < w.heap.size := by simpa [Addr.add] using block_lt_of_cell hc0
    refine ⟨b, off, rfl, hlt, fun j hj => ?_⟩
    have hj := hc j (by omega)
    have e : (⟨b, off, none⟩ : Addr).add j = ⟨b, off + j, none⟩ := by unfold Addr.add; split <;> simp_all
    rwa [e] at hj

theorem tape_new {w : World} {a : Option Addr} {len cap : Nat} {zs : List Int} (h : IsRow .i64 w a len cap zs) : TapeOk (w.alloc (.cells #[.slice a len cap, .int .i64 0] 32)) w.heap.size := by
  obtain ⟨hm, hc⟩ := h.at_
  unfold maxLen at hm
  refine ⟨a, len, cap, fun j => zs.getD j 0, 0, heap_alloc_new _ _, hm, by omega, fun h0 => ?_⟩
  obtain ⟨b, off, e, hlt, hcell⟩ := hc h0
  exact ⟨b, off, e, hlt, fun j hj => (World.cell?_alloc_lt w _ _ hlt).trans (hcell j hj)⟩

/-! ### What the laws of layer 38 say, in plain words -/

theorem mt_an (c : Cl) (j : Nat) : mt c (an c j) = true := by simp [mt, an]

theorem right_ans (c : Cl) : right c (ans c c.r.length) = true := by
  unfold right
  rw [any_no (fun i hi => ?_)]
  · rfl
  · rw [ans_len] at hi
    rw [ans_at _ _ _ hi, mt_an]
    rfl

theorem ms_nil (c : Cl) (l : List En) : ∀ n, (ms c l n).length = 0 → ∀ i, i < n → fnd c l i = true
  | 0, _, i, h => absurd h (by omega)
  | n + 1, h, i, hi => by
    rw [ms] at h
    by_cases hf : fnd c l n = true
    · rw [if_pos hf] at h
      by_cases e : i = n
      · rw [e]; exact hf
      · exact ms_nil c l n h i (by omega)
    · rw [if_neg hf] at h
      simp at h

theorem enough_all {c : Cl} {l : List En} (h : enough c l = true) (i : Nat) (hi : i < c.r.length) : fnd c l i = true := by
  unfold enough at h
  exact ms_nil c l c.r.length (by simpa using h) i hi
theorem enough_of {c : Cl} {l : List En} (h : ∀ i, i < c.r.length → fnd c l i = true) : enough c l = true := by
  have : ∀ n, n ≤ c.r.length → ms c l n = [] := by
    intro n
    induction n with
    | zero => intro _; rfl
    | succ n ih =>
      intro hn
      rw [ms, if_pos (h n (by omega)), ih (by omega)]
  unfold enough
  rw [this _ (Nat.le_refl _)]
  rfl

theorem fnd_iff (c : Cl) (l : List En) (i : Nat) : fnd c l i = true ↔ ∃ j, j < l.length ∧ sO c = true ∧ (l.getD j e0).r = i ∧ (l.getD j e0).f = true ∧ sS c ≤ (l.getD j e0).g ∧ (l.getD j e0).g < c.s.length := by
  unfold fnd
  rw [any_iff]
  constructor
  · rintro ⟨j, h1, h2⟩
    unfold eno at h2
    simp only [Bool.and_eq_true, decide_eq_true_eq, beq_iff_eq] at h2
    exact ⟨j, h1, h2.1.1.1.1, h2.1.1.1.2, h2.1.1.2, h2.1.2, h2.2⟩
  · rintro ⟨j, h1, h2, h3, h4, h5, h6⟩
    refine ⟨j, h1, ?_⟩
    unfold eno
    simp only [Bool.and_eq_true, decide_eq_true_eq, beq_iff_eq]
    exact ⟨⟨⟨⟨h2, h3⟩, h4⟩, h5⟩, h6⟩

/-- Since is told just if the newest set has not the bit. -/
theorem so_iff {m : Nat} {c : Cl} (h : Ok m c) : sO c = true ↔ has (newest c) 1 = false := by
  have h1 := h.s1
  unfold sO
  obtain ⟨N, hN⟩ : ∃ N, c.s.length = N + 1 := ⟨c.s.length - 1, by omega⟩
  have hle := sn_le c.s N
  have e : newest c = c.s.getD N 0 := by unfold newest; rw [hN]; rfl
  rw [hN, e]
  rw [show sn c.s (N + 1) = if has (c.s.getD N 0) 1 then N + 1 else sn c.s N from rfl]
  cases hh : has (c.s.getD N 0) 1 with
  | true => simp
  | false =>
    simp
    omega

theorem so_ss {c : Cl} (h : sO c = true) : sS c = sn c.s c.s.length := by
  unfold sO at h
  unfold sS
  rw [if_neg (by intro e; rw [e] at h; simp at h)]

theorem enough_dead {m : Nat} {c : Cl} (h : Ok m c) (he : enough c (ans c c.r.length) = true) : dead c 1 = true ∧ sO c = true := by
  have hr1 := h.r1
  have all := fun i (hi : i < c.r.length) => (fnd_iff c _ i).1 (enough_all he i hi)
  obtain ⟨_, _, hso, _⟩ := all 0 (by omega)
  refine ⟨(dead_iff c 1).2 ⟨(so_iff h).1 hso, fun i hi => ?_⟩, hso⟩
  obtain ⟨j, hj, -, h2, h3, -, -⟩ := all i hi
  rw [ans_len] at hj
  rw [ans_at _ _ _ hj] at h2 h3
  have e : j = i := h2
  subst e
  have : (!acc c j 1) = true := h3
  simpa using this

end Go.Proofs.Ytamcjhibdcbdnaa.Cl
