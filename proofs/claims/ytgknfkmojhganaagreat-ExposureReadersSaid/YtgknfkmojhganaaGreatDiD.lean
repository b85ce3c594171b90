import Derived.Test.YtgknfkmojhganaaGreatDiC
namespace Go.Proofs.YtgknfkmojhganaaGreat.Di
open Go.RowKit
open Go.Proofs.YtgknfkmojhganaaGreat.Tp
set_option linter.unusedVariables false

/-- A list of those below n for which p holds, ascending. -/
def SmPost (p : Nat → Bool) (n : Nat) (w : World) (e : Ending) (w' : World) : Prop := ∃ A cc, e = .returned (.slice A (cnt p n) cc) ∧ w'.ownsRow w.heap.size 3 1 (.slice A (cnt p n) cc) (cnt p n) (iv (idx p n)) ∧ Below w.heap.size w w'

set_option maxRecDepth 100000 in
set_option maxHeartbeats 400000 in
theorem has_any (l : List Nat) (x : Nat) (A : Option Addr) (n cc : Nat) (w : World) (h : Row w 0 1 A n (iv l)) (hn : n ≤ 1000) :
    Calls Tryz.prog 65 #[.slice A n cc, .int .i64 (x : Int)] w fun e w' => e = .returned (.bool (anyB (fun j => l.getD j 0 == x) n)) ∧ w' = w := by
  have H := Lib.hid h
  clear h
  go_enter Tryz.func65, Tryz.ntmps65
  go_wp2_with fail
  go_loopw [9] (fun ii wr => ∃ k : Nat, k ≤ n ∧ ii = .int .i64 k ∧ (∀ j, j < k → (l.getD j 0 == x) = false) ∧ wr = w) (fun ii _ => n - (intOf ii).toNat)
  case atStart => exact ⟨0, by omega, rfl, fun j h => absurd h (by omega), rfl⟩
  case round =>
    obtain ⟨k, hk, rfl, hno, rfl⟩ := hrel
    have HNO := Lib.hid hno
    clear hno
    by_cases hlt : k < n
    · obtain ⟨b, off, hA, -, -, d0⟩ := H.out.int hlt
      subst hA
      have i0 : (0 : Int) ≤ (k : Int) := by omega
      have i1 : (k : Int) < (n : Int) := by omega
      generalize hy : l.getD k 0 = y at *
      have HY := Lib.hid hy
      clear hy
      by_cases e : y = x
      · have k1 : ((y : Int) == (x : Int)) = true := by rw [e]; simp
        have HE := Lib.hid e
        clear e
        go_wp2_with fail
        go_ret
        exact ⟨by rw [(any_iff _ _).2 ⟨k, hlt, by rw [HY.out, HE.out]; simp⟩]; rfl, rfl⟩
      · have k1 : ((y : Int) == (x : Int)) = false := beq_eq_false_iff_ne.2 (by omega)
        have k2 : (y == x) = false := beq_eq_false_iff_ne.2 e
        have HK2 := Lib.hid k2
        clear e k2
        go_wp2_with fail
        exact ⟨⟨k + 1, by omega, by go_num, fun j hj => by
          by_cases e : j = k
          · rw [e, HY.out]; exact HK2.out
          · exact HNO.out j (by omega), by first | rfl | trivial⟩, by simp [intOf]; omega⟩
    · obtain rfl : n = k := by omega
      go_wp2_with fail
      go_ret
      exact ⟨by rw [any_no HNO.out]; rfl, rfl⟩

theorem has_idx (p : Nat → Bool) (n i : Nat) (hi : i < n) : anyB (fun j => (idx p n).getD j 0 == i) (cnt p n) = p i := by
  cases hp : p i with
  | true =>
    have hm := (idx_mem p i n).2 ⟨hi, hp⟩
    obtain ⟨j, hj, he⟩ := List.getElem_of_mem hm
    refine (any_iff _ _).2 ⟨j, by rw [← idx_len]; exact hj, ?_⟩
    rw [List.getD_eq_getElem?_getD, List.getElem?_eq_getElem hj]
    simpa using he
  | false =>
    refine any_no fun j hj => ?_
    rw [← idx_len] at hj
    rw [beq_eq_false_iff_ne]
    intro e
    have hm : i ∈ idx p n := by
      rw [← e, List.getD_eq_getElem?_getD, List.getElem?_eq_getElem hj]
      exact List.getElem_mem hj
    rw [((idx_mem p i n).1 hm).2] at hp
    cases hp

end Go.Proofs.YtgknfkmojhganaaGreat.Di
