import Derived.Test.YtahggnlmabdbbaaRtW
import Derived.Test.YtahggnlmabdbbaaFew
import Derived.Test.YtahggnlmabdbbaaMkRi
import Derived.ProofKit
import Derived.OpenShut
import Derived.ShutString
import Derived.ChangeOld
namespace Go.Proofs.Ytahggnlmabdbbaa.Di
open Go.RowKit
open Go.Proofs.Ytahggnlmabdbbaa.Tp
set_option linter.unusedVariables false
open Go.Proofs.Ytahggnlmabdbbaa.Sx

theorem own : ownKnob Try.prog.godebug = none := by kernel_rfl

theorem laidOut : laidOutB Try.prog = true := by kernel_rfl

/-- A slice of integers that came in: nil, or a row of 'cap' cells. -/
def IsRow (k : IntKind) (w : World) (a : Option Addr) (len cap : Nat) (zs : List Int) : Prop :=
  (a = none ∧ len = 0 ∧ cap = 0 ∧ zs = []) ∨
  ∃ x, a = some x ∧ len ≤ cap ∧ cap ≤ maxLen ∧ zs.length = cap ∧ (∀ i, i < zs.length → w.cell? (x.add i) = some (.int k (zs.getD i 0))) ∧ ∀ n ∈ zs, (Lit.int k n).wf = true

theorem IsRow.at_ {k : IntKind} {w : World} {a : Option Addr} {len cap : Nat} {zs : List Int} (h : IsRow k w a len cap zs) :
    len ≤ maxLen ∧ (0 < len → ∃ b off, a = some ⟨b, off, none⟩ ∧ b < w.heap.size ∧ ∀ j, j < len → w.cell? ⟨b, off + j, none⟩ = some (.int k (zs.getD j 0))) := by
  rcases h with ⟨rfl, rfl, rfl, rfl⟩ | ⟨x, rfl, hl, hm, hz, hc, hw⟩
  · exact ⟨by unfold maxLen; omega, fun h => absurd h (by omega)⟩
  · refine ⟨by omega, fun h0 => ?_⟩
    obtain ⟨b, off, spot⟩ := x
    have hc0 := hc 0 (by omega)
    have hspot : spot = none := by simpa [Addr.add] using World.cell?_spot hc0
    subst hspot
    have hlt : b < w.heap.size := by simpa [Addr.add] using block_lt_of_cell hc0
    refine ⟨b, off, rfl, hlt, fun j hj => ?_⟩
    have hj := hc j (by omega)
    have e : (⟨b, off, none⟩ : Addr).add j = ⟨b, off + j, none⟩ := by unfold Addr.add; split <;> simp_all
    rwa [e] at hj

theorem tape_new {w : World} {a : Option Addr} {len cap : Nat} {zs : List Int} (h : IsRow .i64 w a len cap zs) : TapeOk (w.alloc (.cells #[.slice a len cap, .int .i64 0] 26)) w.heap.size := by
  obtain ⟨hm, hc⟩ := h.at_
  unfold maxLen at hm
  refine ⟨a, len, cap, fun j => zs.getD j 0, 0, heap_alloc_new _ _, hm, by omega, fun h0 => ?_⟩
  obtain ⟨b, off, e, hlt, hcell⟩ := hc h0
  exact ⟨b, off, e, hlt, fun j hj => (World.cell?_alloc_lt w _ _ hlt).trans (hcell j hj)⟩

theorem tape_of {w w1 : World} {a : Option Addr} {len cap b : Nat} {zs : List Int} (h : IsRow .i64 w a len cap zs) (nw : New w w1 b) (x : Bx w1 b [.slice a len cap, .int .i64 0] 26) : TapeOk w1 b := by
  obtain ⟨hm, hc⟩ := h.at_
  unfold maxLen at hm
  refine ⟨a, len, cap, fun j => zs.getD j 0, 0, x, hm, by omega, fun h0 => ?_⟩
  obtain ⟨b2, off, e, hlt, hcell⟩ := hc h0
  exact ⟨b2, off, e, Nat.lt_of_lt_of_le hlt nw.ge, fun j hj => (World.cell?_of_block (w := w) (nw.r.block b2 hlt (fun h => h))).trans (hcell j hj)⟩
theorem MkR.ok {x : Rt} (h : MkR x) : Rok x := by
  have := h.c1; have := h.c6; have := h.k1; have := h.k5; have := h.g7; have := h.s4; have := h.m3
  refine ⟨by omega, by omega, by omega, by omega, by omega, by omega, by omega, fun j hj => ?_, fun j hj => ?_, fun j hj => ?_⟩
  · exact h.g _ (by unfold e3; rw [List.getD_eq_getElem?_getD, List.getElem?_eq_getElem hj]; exact List.getElem_mem hj)
  · exact h.s _ (by unfold e2; rw [List.getD_eq_getElem?_getD, List.getElem?_eq_getElem hj]; exact List.getElem_mem hj)
  · exact h.m _ (by unfold e2; rw [List.getD_eq_getElem?_getD, List.getElem?_eq_getElem hj]; exact List.getElem_mem hj)
theorem asc_of {l : List Int} (h : l.Pairwise (· < ·)) (j : Nat) (hj : j + 1 < l.length) : e0 l j < e0 l (j + 1) := by
  have := List.pairwise_iff_getElem.1 h j (j + 1) (by omega) hj (by omega)
  unfold e0
  rw [List.getD_eq_getElem?_getD, List.getD_eq_getElem?_getD, List.getElem?_eq_getElem (by omega), List.getElem?_eq_getElem hj]
  exact this
theorem SetP.reach {x : Rt} (hx : Rok x) {c : Int} (hc : 0 ≤ c ∧ c < x.c) : SetP x (rl x c) := by
  have hm := rl_mem hx hc c
  refine ⟨hx, fun j hj => ((rl_mem hx hc _).1 (e0_mem hj)).rng hx hc, fun j hj => asc_of (fl_up _ _) j hj, ?_, by have := rl_len hx c; omega⟩
  cases h : rl x c with
  | nil => rw [h] at hm; exact absurd (hm.2 (.refl _ _)) (by simp)
  | cons a l => simp
theorem cloP.reach {x : Rt} (hx : Rok x) {c : Int} (hc : 0 ≤ c ∧ c < x.c) : cloP x (rl x c) := fun y hy z hz => (rl_mem hx hc z).2 (((rl_mem hx hc y).1 hy).trans hz)
theorem SetP.few {x : Rt} (hx : Rok x) {n q : Nat} {l : List Int} (hn : (n : Int) = x.c) (h : FewI n q n l) (hp : 0 < l.length) : SetP x l :=
  ⟨hx, fun j hj => by have := h.rng _ (e0_mem hj); omega, fun j hj => asc_of h.asc j hj, hp, by have := h.len; have := hx.c1; omega⟩
/-- More in the set, more of a right. -/
theorem gt_mono {x : Rt} {S S' : Int → Bool} (h : ∀ y, S y = true → S' y = true) (r : Int) : ∀ n, gt x S r n ≤ gt x S' r n
  | 0 => Int.le_refl _
  | n + 1 => by
    have ih := gt_mono (x := x) h r n
    rw [gt, gt]
    by_cases h1 : S (e3 x.g n).a = true ∧ (e3 x.g n).b = r
    · rw [if_pos h1, if_pos ⟨h _ h1.1, h1.2⟩]; omega
    · rw [if_neg h1]
      split
      · omega
      · exact ih
end Go.Proofs.Ytahggnlmabdbbaa.Di
