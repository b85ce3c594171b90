import Derived.Test.YtgknfkmojhganaaGreatDiE
namespace Go.Proofs.YtgknfkmojhganaaGreat.Di
open Go.RowKit
open Go.Proofs.YtgknfkmojhganaaGreat.Tp
set_option linter.unusedVariables false

/-- Numbers below n, ascending, each once. -/
structure Strict (l : List Nat) (n : Nat) : Prop where
  up : ∀ j, j + 1 < l.length → l.getD j 0 < l.getD (j + 1) 0
  lt : ∀ j, j < l.length → l.getD j 0 < n
  len : l.length ≤ n
theorem Strict.nil (n : Nat) : Strict [] n := ⟨fun j h => absurd h (by simp), fun j h => absurd h (by simp), by simp⟩
theorem Strict.snoc {l : List Nat} {k : Nat} (h : Strict l k) : Strict (l ++ [k]) (k + 1) := by
  refine ⟨fun j hj => ?_, fun j hj => ?_, by have := h.len; simp; omega⟩
  · simp at hj
    rw [getD_snoc_left (by omega)]
    by_cases e : j + 1 = l.length
    · rw [e, getD_snoc_end]; exact h.lt j (by omega)
    · rw [getD_snoc_left (by omega)]; exact h.up j (by omega)
  · simp at hj
    by_cases e : j = l.length
    · rw [e, getD_snoc_end]; omega
    · rw [getD_snoc_left (by omega)]; have := h.lt j (by omega); omega
theorem Strict.more {l : List Nat} {k : Nat} (h : Strict l k) : Strict l (k + 1) := ⟨h.up, fun j hj => by have := h.lt j hj; omega, by have := h.len; omega⟩

def FwPost (T n : Nat) (w : World) (e : Ending) (w' : World) : Prop := ∃ (l : List Nat) (A : Option Addr) (cc : Nat), e = .returned (.slice A l.length cc) ∧ Strict l n ∧ w'.ownsRow w.heap.size 3 1 (.slice A l.length cc) l.length (iv l) ∧ w.grownBy w' (some T) ∧ TapeOk w' T

def PickPost (T : Nat) (zs : List Nat) (w : World) (e : Ending) (w' : World) : Prop := ∃ r, r < zs.length ∧ e = .returned (.int .i64 ((zs.getD r 0 : Nat) : Int)) ∧ w.grownBy w' (some T) ∧ TapeOk w' T

set_option maxRecDepth 100000 in
set_option maxHeartbeats 400000 in
theorem pick_any (T B n cc : Nat) (A : Option Addr) (zs : List Nat) (w : World) (h : TapeOk w T) (hr : Row w B 1 A n (iv zs)) (hB : T < B) (hn : 1 ≤ n) (hn2 : n ≤ 100) :
    Calls Tryz.prog 39 #[.pointer (some ⟨T, 0, none⟩), .slice A n cc] w (PickPost T zs w) := by
  have hl := hr.len
  rw [iv_len] at hl
  have HT := Lib.hid h
  have HR := Lib.hid hr
  clear h hr
  go_enter Tryz.func39, Tryz.ntmps39
  go_wp2_with fail
  refine (next_any T n _ HT.out (by omega) (by omega)).mono ?_
  rintro e w1 ⟨r, hr0, hr1, rfl, hg1, ht1⟩
  obtain ⟨k, rfl⟩ : ∃ k : Nat, r = k := ⟨r.toNat, by omega⟩
  obtain ⟨b, off, rfl, -, -, c0⟩ := (HR.out.grown hg1 (fun g e => by cases e; exact hB)).int (i := k) (by omega)
  have HG := Lib.hid hg1
  have HT1 := Lib.hid ht1
  have i1 : (k : Int) < (n : Int) := by omega
  obtain ⟨z, hz⟩ : ∃ z, zs.getD k 0 = z := ⟨_, rfl⟩
  rw [hz] at c0
  have HZ := Lib.hid hz
  have hkl : k < zs.length := by omega
  clear hg1 ht1 hz hl
  go_wp2_with fail
  go_ret
  refine ⟨k, hkl, ?_, HG.out, HT1.out⟩
  rw [HZ.out]
  rfl

end Go.Proofs.YtgknfkmojhganaaGreat.Di
