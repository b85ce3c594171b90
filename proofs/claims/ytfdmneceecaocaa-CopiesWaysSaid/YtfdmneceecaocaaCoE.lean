import Derived.Test.YtfdmneceecaocaaCoB
namespace Go.Proofs.Ytfdmneceecaocaa.Di
open Go.RowKit
open Go.Proofs.Ytfdmneceecaocaa.Tp
set_option linter.unusedVariables false

set_option maxRecDepth 100000 in
set_option maxHeartbeats 400000 in
theorem index_any (l : List Nat) (x : Nat) (A : Option Addr) (n cc : Nat) (w : World) (h : Row w 0 1 A n (iv l)) (hn : n ≤ 1000) :
    Calls Try.prog 72 #[.slice A n cc, .int .i64 (x : Int)] w fun e w' => (∃ z : Int, e = .returned (.int .i64 z) ∧ decide (0 ≤ z) = anyB (fun j => l.getD j 0 == x) n) ∧ w' = w := by
  have H := Lib.hid h
  clear h
  go_enter Try.func72, Try.ntmps72
  go_wp2_with fail
  go_loopw [8] (fun ii wr => ∃ k : Nat, k ≤ n ∧ ii = .int .i64 k ∧ (∀ j, j < k → (l.getD j 0 == x) = false) ∧ wr = w) (fun ii _ => n - (intOf ii).toNat)
  case atStart => exact ⟨0, by omega, rfl, fun j h => absurd h (by omega), rfl⟩
  case round =>
    obtain ⟨k, hk, rfl, hno, rfl⟩ := hrel
    have HNO := Lib.hid hno
    clear hno
    by_cases hlt : k < n
    · obtain ⟨b, off, hA, -, -, d0⟩ := H.out.int hlt
      subst hA
      have i0 : (0 : Int) ≤ (k : Int) := by omega
      have i1 : (k : Int) < (n : Int) := by omega
      generalize hy : l.getD k 0 = y at *
      have HY := Lib.hid hy
      clear hy
      by_cases e : y = x
      · have k1 : ((x : Int) == (y : Int)) = true := by rw [e]; simp
        have HE := Lib.hid e
        clear e
        go_wp2_with fail
        go_ret
        exact ⟨⟨(k : Int), rfl, by rw [(any_iff _ _).2 ⟨k, hlt, by rw [HY.out, HE.out]; simp⟩]; exact decide_eq_true (by omega)⟩, rfl⟩
      · have k1 : ((x : Int) == (y : Int)) = false := beq_eq_false_iff_ne.2 (by omega)
        have k2 : (y == x) = false := beq_eq_false_iff_ne.2 e
        have HK2 := Lib.hid k2
        clear e k2
        go_wp2_with fail
        exact ⟨⟨k + 1, by omega, by go_num, fun j hj => by
          by_cases e : j = k
          · rw [e, HY.out]; exact HK2.out
          · exact HNO.out j (by omega), by first | rfl | trivial⟩, by simp [intOf]; omega⟩
    · obtain rfl : n = k := by omega
      go_wp2_with fail
      go_ret
      exact ⟨⟨-1, rfl, by rw [any_no HNO.out]; rfl⟩, rfl⟩
set_option maxRecDepth 100000 in
set_option maxHeartbeats 400000 in
theorem contains_any (l : List Nat) (x : Nat) (A : Option Addr) (n cc : Nat) (w : World) (h : Row w 0 1 A n (iv l)) (hn : n ≤ 1000) :
    Calls Try.prog 64 #[.slice A n cc, .int .i64 (x : Int)] w fun e w' => e = .returned (.bool (anyB (fun j => l.getD j 0 == x) n)) ∧ w' = w := by
  have HI := Lib.hid (index_any l x A n cc w h hn)
  clear h
  go_enter Try.func64, Try.ntmps64
  go_wp2_with (go_at_call 72; refine HI.out.mono ?_; rintro e w1 ⟨⟨z, rfl, hz⟩, rfl⟩; have HZ := Lib.hid hz; clear hz)
  go_ret
  exact ⟨by rw [← HZ.out]; first | rfl | simp, rfl⟩

end Go.Proofs.Ytfdmneceecaocaa.Di
