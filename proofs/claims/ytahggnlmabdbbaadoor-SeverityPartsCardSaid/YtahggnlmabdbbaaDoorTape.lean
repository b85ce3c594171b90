import Derived.Test.YtahggnlmabdbbaaDoorRows
import Derived.WalkKit
import Derived.Lib.Hide
import Derived.WalkSpells
import Derived.WalkLawsBesides
import Derived.Deep.QuietTactic
import Derived.BigQuiet
import Derived.Laws.Bits128
import Derived.Laws.Rows
namespace Go.Proofs.YtahggnlmabdbbaaDoor.Tp
open Go.RowKit

theorem gb_trans {a b c : World} {row : Option Nat} (h : a.grownBy b row) (k : b.grownBy c row) : a.grownBy c row :=
  ⟨k.os.trans h.os, k.tape.trans h.tape, k.output.trans h.output, Nat.le_trans h.size k.size, fun i hi hne => (k.block i (Nat.lt_of_lt_of_le hi h.size) hne).trans (h.block i hi hne)⟩

theorem gb_drewN (w : World) (n : Nat) (row : Option Nat) : w.grownBy (w.drewN n) row := ⟨rfl, rfl, rfl, Nat.le_refl _, fun _ _ _ => rfl⟩

theorem gb_set (w : World) (T i : Nat) (v : Value) : w.grownBy (w.setCell ⟨T, i, none⟩ v) (some T) :=
  ⟨rfl, rfl, rfl, by simp [World.setCell], fun k _ hne => Below.heap_setCell _ _ _ _ (fun e => hne (by rw [e]))⟩

theorem gb_row {w w' : World} {row : Option Nat} (h : w.grownBy w' none) : w.grownBy w' row := ⟨h.os, h.tape, h.output, h.size, fun k hk _ => h.block k hk (by simp)⟩

/-- Block T is a tape: a slice of ints below it, and a place in it. -/
def TapeOk (w : World) (T : Nat) : Prop :=
  ∃ (A : Option Addr) (n c : Nat) (z : Nat → Int) (p : Nat), w.heap[T]? = some (.cells #[.slice A n c, .int .i64 (p : Int)] 32 (0, 0)) ∧ n ≤ 9223372036854775807 ∧ p ≤ n ∧
    (0 < n → ∃ b off, A = some ⟨b, off, none⟩ ∧ b < T ∧ ∀ j, j < n → w.cell? ⟨b, off + j, none⟩ = some (.int .i64 (z j)))

def NextPost (T : Nat) (w : World) (m : Int) (e : Ending) (w' : World) : Prop :=
  ∃ r : Int, 0 ≤ r ∧ r ≤ m - 1 ∧ e = .returned (.int .i64 r) ∧ w.grownBy w' (some T) ∧ TapeOk w' T

theorem and_65535 (n : Int) : bits .and .i64 n 65535 = n % 65536 := by
  have h127 : (BitVec.ofInt 64 65535).toNat = 2 ^ 16 - 1 := by decide
  have key : (BitVec.ofInt 64 n &&& BitVec.ofInt 64 65535).toNat = (n % ((2 ^ 64 : Nat) : Int)).toNat % 2 ^ 16 := by
    rw [BitVec.toNat_and, BitVec.toNat_ofInt, h127, Nat.and_two_pow_sub_one_eq_mod]
  show IntKind.i64.wrap ((BitVec.ofInt 64 n &&& BitVec.ofInt 64 65535).toNat : Nat) = n % 65536
  rw [key, IntKind.wrap_i64]
  omega

set_option maxRecDepth 100000 in
set_option maxHeartbeats 400000 in
theorem next_any (T : Nat) (m : Int) (w : World) (h : TapeOk w T) (hm0 : 1 ≤ m) (hm1 : m ≤ 65536) :
    Calls Tryd.prog 11 #[.pointer (some ⟨T, 0, none⟩), .int .i64 m] w (NextPost T w m) := by
  obtain ⟨A, n, c, z, p, hT, hmax, hp, hmem⟩ := h
  have c0 : w.cell? ⟨T, 0, none⟩ = some (.slice A n c) := by rw [cell_of_row _ _ _ _ _ _ hT]; rfl
  have c1 : w.cell? ⟨T, 1, none⟩ = some (.int .i64 (p : Int)) := by rw [cell_of_row _ _ _ _ _ _ hT]; rfl
  have f1 : w.frozen? ⟨T, 1, none⟩ = false := frozen_of_row _ _ _ _ _ hT
  have HT := Lib.hid hT
  have HM := Lib.hid hmem
  clear hT hmem
  by_cases hlt : p < n
  · obtain ⟨b, off, rfl, hb, hc⟩ := HM.out (by omega)
    have c2 := hc p hlt
    have HC := Lib.hid hc
    have hz := and_65535 (z p)
    clear hc
    generalize z p = y at *
    have hy : 0 ≤ y % 65536 ∧ y % 65536 ≤ 65535 := by omega
    generalize y % 65536 = x at *
    obtain ⟨hx0, hx1⟩ := hy
    go_enter Tryd.func11, Tryd.ntmps11
    go_wp2
    go_quiet (fail)
    go_wp2
    go_quiet (fail)
    go_wp2
    go_ret
    refine ⟨x % m, Int.emod_nonneg _ (by omega), by have := Int.emod_lt_of_pos x (show 0 < m by omega); omega, rfl, gb_trans (gb_drewN _ _ _) (gb_set _ _ _ _), _, n, c, z, p + 1, heap_setCell_same _ _ _ _ _ _ HT.out, hmax, by omega, fun _ => ⟨b, off, rfl, hb, fun j hj => ?_⟩⟩
    exact (World.cell?_of_block (w := w) (Below.heap_setCell _ _ _ _ (by simp; omega))).trans (HC.out j hj)
  · have hpn : n ≤ p := by omega
    go_enter Tryd.func11, Tryd.ntmps11
    go_wp2
    go_quiet (fail)
    go_wp2
    go_ret
    exact ⟨0, by omega, by omega, rfl, gb_drewN _ _ _, A, n, c, z, p, HT.out, hmax, hp, HM.out⟩

theorem between_any (T : Nat) (a b : Int) (w : World) (h : TapeOk w T) (h0 : a ≤ b) (h1 : b - a ≤ 65535) (ha : -1000000 ≤ a) (hb : b ≤ 1000000) :
    Calls Tryd.prog 15 #[.pointer (some ⟨T, 0, none⟩), .int .i64 a, .int .i64 b] w (fun e w' => ∃ r : Int, a ≤ r ∧ r ≤ b ∧ e = .returned (.int .i64 r) ∧ w.grownBy w' (some T) ∧ TapeOk w' T) := by
  have H := Lib.hid h
  clear h
  have hc := next_any T (b - a + 1) w H.out (by omega) (by omega)
  have HC := Lib.hid hc
  clear hc
  go_enter Tryd.func15, Tryd.ntmps15
  go_wp2_with (go_at_call 11; refine HC.out.mono ?_; rintro e w' ⟨r, hr0, hr1, rfl, hg, ht⟩; have HG := Lib.hid hg; have HT := Lib.hid ht; clear hg ht)
  go_ret
  exact ⟨a + r, by omega, by omega, rfl, HG.out, HT.out⟩
end Go.Proofs.YtahggnlmabdbbaaDoor.Tp
