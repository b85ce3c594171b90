import Derived.Test.YtgknfkmojhganaaGreatDiR
namespace Go.Proofs.YtgknfkmojhganaaGreat.Di
open Go.RowKit
open Go.Proofs.YtgknfkmojhganaaGreat.Tp
set_option linter.unusedVariables false

set_option maxRecDepth 100000 in
set_option maxHeartbeats 4000000 in
theorem mul64_few (n : Nat) (hn : n ≤ 24) (w : World) : Calls Tryz.prog 144 #[.int .u64 1, .int .u64 (n : Int)] w fun e w' => e = .returned (.tuple #[.int .u64 0, .int .u64 (n : Int)]) ∧ w = w' := by
  rcases (by omega : n = 0 ∨ n = 1 ∨ n = 2 ∨ n = 3 ∨ n = 4 ∨ n = 5 ∨ n = 6 ∨ n = 7 ∨ n = 8 ∨ n = 9 ∨ n = 10 ∨ n = 11 ∨ n = 12 ∨ n = 13 ∨ n = 14 ∨ n = 15 ∨ n = 16 ∨ n = 17 ∨ n = 18 ∨ n = 19 ∨ n = 20 ∨ n = 21 ∨ n = 22 ∨ n = 23 ∨ n = 24) with rfl | rfl | rfl | rfl | rfl | rfl | rfl | rfl | rfl | rfl | rfl | rfl | rfl | rfl | rfl | rfl | rfl | rfl | rfl | rfl | rfl | rfl | rfl | rfl | rfl <;>
  · go_enter Tryz.func144, Tryz.ntmps144
    go_wp2
    go_ret2
    exact ⟨rfl, rfl⟩

set_option maxRecDepth 100000 in
set_option maxHeartbeats 1000000 in
theorem mul_few (n : Nat) (hn : n ≤ 24) (w : World) : Calls Tryz.prog 131 #[.int .u64 1, .int .u64 (n : Int)] w fun e w' => e = .returned (.tuple #[.int .u64 0, .int .u64 (n : Int)]) ∧ w = w' := by
  have HM := Lib.hid (fun w => mul64_few n hn w)
  clear hn
  go_enter Tryz.func131, Tryz.ntmps131
  go_wp2_with (go_at_call 144; (with_reducible refine (HM.out _).mono ?_); rintro e w' ⟨rfl, rfl⟩)
  go_ret2
  exact ⟨rfl, rfl⟩

/-- m times x, and then y up to n. -/
def fil (x y : Value) (m n : Nat) : List Value := List.replicate m x ++ List.replicate (n - m) y
theorem fil_len (x y : Value) {m n : Nat} (h : m ≤ n) : (fil x y m n).length = n := by simp [fil]; omega
theorem fil_at (x y : Value) {m n j : Nat} (h : j < m) : (fil x y m n)[j]? = some x := by
  unfold fil
  rw [List.getElem?_append_left (by simpa using h), List.getElem?_replicate, if_pos h]
theorem fil_splice (x y : Value) {m n k : Nat} (h : m + k ≤ n) : splice (fil x y m n) m (List.replicate k x) = fil x y (m + k) n := by
  unfold splice fil
  rw [List.take_left' (by simp), List.length_replicate, List.drop_append, List.length_replicate, List.drop_of_length_le (by simp), List.nil_append, List.drop_replicate, ← List.append_assoc, List.replicate_append_replicate]
  congr 2
  omega
theorem fil_all (x y : Value) (n : Nat) : fil x y n n = List.replicate n x := by simp [fil]

end Go.Proofs.YtgknfkmojhganaaGreat.Di
