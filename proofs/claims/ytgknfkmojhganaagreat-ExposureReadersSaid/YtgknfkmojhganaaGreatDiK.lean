import Derived.Test.YtgknfkmojhganaaGreatDiJ
namespace Go.Proofs.YtgknfkmojhganaaGreat.Di
open Go.RowKit
open Go.Proofs.YtgknfkmojhganaaGreat.Tp
set_option linter.unusedVariables false

set_option maxRecDepth 100000 in
set_option maxHeartbeats 400000 in
theorem index_any (l : List Nat) (x : Nat) (A : Option Addr) (n c : Nat) (w : World) (h : Row w 0 1 A n (iv l)) (hn : n ≤ 1000) :
    Calls Tryz.prog 108 #[.slice A n c, .int .i64 (x : Int)] w fun e w' => e = .returned (.int .i64 (fi (fun j => l.getD j 0 == x) n 0)) ∧ w' = w := by
  have H := Lib.hid h
  clear h
  have HS := Lib.hid (fun k (hk : k < n) => fi_step (fun j => l.getD j 0 == x) n k hk)
  generalize hF : fi (fun j => l.getD j 0 == x) n 0 = F at *
  have HF0 := Lib.hid hF
  clear hF
  go_enter Tryz.func108, Tryz.ntmps108
  go_wp2_with fail
  go_loopw [8] (fun ii wr => ∃ k : Nat, k ≤ n ∧ ii = .int .i64 k ∧ fi (fun j => l.getD j 0 == x) n 0 = fi (fun j => l.getD j 0 == x) (n - k) k ∧ wr = w) (fun ii _ => n - (intOf ii).toNat)
  case atStart => exact ⟨0, by omega, rfl, rfl, rfl⟩
  case round =>
    obtain ⟨k, hk, rfl, hfi, rfl⟩ := hrel
    have HF := Lib.hid hfi
    clear hfi
    by_cases hlt : k < n
    · obtain ⟨b, off, hA, -, -, d0⟩ := H.out.int hlt
      subst hA
      have HSk := Lib.hid (HS.out k hlt)
      have i0 : (0 : Int) ≤ (k : Int) := by omega
      have i1 : (k : Int) < (n : Int) := by omega
      generalize hy : l.getD k 0 = y at *
      have HY := Lib.hid hy
      clear hy
      by_cases e : y = x
      · have k1 : ((x : Int) == (y : Int)) = true := by rw [e]; simp
        have HE := Lib.hid e
        clear e
        go_wp2_with fail
        go_ret
        refine ⟨?_, rfl⟩
        rw [← HF0.out, HF.out, HSk.out.1 (by rw [HE.out]; simp)]
        rfl
      · have k1 : ((x : Int) == (y : Int)) = false := beq_eq_false_iff_ne.2 (by omega)
        have k2 : (y == x) = false := beq_eq_false_iff_ne.2 e
        have HK2 := Lib.hid k2
        clear e k2
        go_wp2_with fail
        exact ⟨⟨k + 1, by omega, by go_num, by rw [HF.out, HSk.out.2 HK2.out], by first | rfl | trivial⟩, by simp [intOf]; omega⟩
    · obtain rfl : n = k := by omega
      go_wp2_with fail
      go_ret
      refine ⟨?_, rfl⟩
      rw [← HF0.out, HF.out, Nat.sub_self]
      rfl

set_option maxRecDepth 100000 in
set_option maxHeartbeats 400000 in
theorem contains_any (l : List Nat) (x : Nat) (A : Option Addr) (n c : Nat) (w : World) (h : Row w 0 1 A n (iv l)) (hn : n ≤ 1000) :
    Calls Tryz.prog 60 #[.slice A n c, .int .i64 (x : Int)] w fun e w' => e = .returned (.bool (anyB (fun j => l.getD j 0 == x) n)) ∧ w' = w := by
  have HC := Lib.hid (index_any l x A n c w h hn)
  clear h
  generalize hp : (fun j => l.getD j 0 == x) = p at *
  clear hp
  cases ha : anyB p n with
  | false =>
    rw [fi_none p n ha] at HC
    clear ha
    go_enter Tryz.func60, Tryz.ntmps60
    go_wp2_with (go_at_call 108; refine HC.out.mono ?_; rintro e w' ⟨rfl, rfl⟩)
    go_ret
    exact ⟨rfl, rfl⟩
  | true =>
    obtain ⟨q, hq⟩ := fi_some p n ha
    rw [hq] at HC
    clear ha hq
    have hd : decide ((0 : Int) ≤ (q : Int)) = true := decide_eq_true (by omega)
    go_enter Tryz.func60, Tryz.ntmps60
    go_wp2_with (go_at_call 108; refine HC.out.mono ?_; rintro e w' ⟨rfl, rfl⟩)
    go_ret
    exact ⟨by first | rfl | simp, rfl⟩

end Go.Proofs.YtgknfkmojhganaaGreat.Di
