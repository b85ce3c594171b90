import Derived.Test.YtidpkkekoldkgaaEntMath
import Derived.Below
import Derived.Laws.Rows
namespace Go.Proofs.Ytidpkkekoldkgaa.Ent
open Go.RowKit

/-- How often a byte occurs, and the table of all 256 counts. -/
def cnt (bs : List Nat) (i : Nat) : Nat := bs.count i
def tab (bs : List Nat) : Array Value := ((List.range 256).map fun i => Value.int .i64 (cnt bs i : Int)).toArray

theorem tab_size (bs : List Nat) : (tab bs).size = 256 := by simp [tab]
theorem tab_at (bs : List Nat) (i : Nat) (h : i < 256) : (tab bs)[i]? = some (.int .i64 (cnt bs i : Int)) := by
  simp [tab, h]
theorem cnt_le (bs : List Nat) (i : Nat) : cnt bs i ≤ bs.length := List.count_le_length
theorem cnt_snoc (bs : List Nat) (b i : Nat) : cnt (bs ++ [b]) i = cnt bs i + if b = i then 1 else 0 := by
  unfold cnt
  rw [List.count_append, List.count_singleton]
  by_cases h : b = i <;> simp [h]
theorem tab_snoc (bs : List Nat) (b : Nat) : tab (bs ++ [b]) = (tab bs).setIfInBounds b (.int .i64 ((cnt bs b : Int) + 1)) := by
  apply Array.ext
  · simp [tab_size]
  · intro i h1 h2
    have hi : i < 256 := by simpa [tab_size] using h1
    have e1 := tab_at (bs ++ [b]) i hi
    have e2 := tab_at bs i hi
    rw [Array.getElem?_eq_getElem (by simp [tab_size, hi])] at e1 e2
    rw [Array.getElem_setIfInBounds (by simp [tab_size, hi])]
    rw [Option.some.injEq] at e1 e2
    rw [e1, e2, cnt_snoc]
    by_cases hb : b = i
    · subst hb
      simp
    · simp [hb]
theorem tab_one (bs : List Nat) : (tab bs).all (·.oneCell') = true := by
  simp [tab, Value.oneCell']

/-- A slice value of bytes, nil let in. -/
def Bytes (w : World) (A : Option Addr) (n : Nat) (bs : List Nat) : Prop :=
  bs.length = n ∧ (∀ b ∈ bs, b ≤ 255) ∧ n ≤ 9223372036854775807 ∧ (0 < n → ∃ b off, A = some ⟨b, off, none⟩ ∧ b < w.heap.size ∧ ∀ j, j < n → w.cell? ⟨b, off + j, none⟩ = some (.int .u8 (bs.getD j 0 : Nat)))

theorem Bytes.below {w w' : World} {A : Option Addr} {n : Nat} {bs : List Nat} (h : Bytes w A n bs) (hb : Below w.heap.size w w') : Bytes w' A n bs := by
  obtain ⟨h1, h2, h3, h4⟩ := h
  refine ⟨h1, h2, h3, fun hn => ?_⟩
  obtain ⟨b, off, e, hlt, hc⟩ := h4 hn
  exact ⟨b, off, e, Nat.lt_of_lt_of_le hlt hb.size, fun j hj => (hb.cell (p := ⟨b, off + j, none⟩) hlt).trans (hc j hj)⟩

end Go.Proofs.Ytidpkkekoldkgaa.Ent
