import Derived.Test.YthofhljbipkiaaaCoJ
import Derived.Test.YthofhljbipkiaaaCoD1
namespace Go.Proofs.Ythofhljbipkiaaa.Co
open Go.RowKit
open Go.Proofs.Ythofhljbipkiaaa.Tp
set_option linter.unusedVariables false

theorem same_of {P : Program} {f : FuncId} {args : Array Value} {w : World} {v : Value} (h : Calls P f args w fun e w' => e = .returned v ∧ w = w') : Calls P f args w fun e w' => e = .returned v ∧ w' = w := h.mono fun _ _ ⟨a, b⟩ => ⟨a, b.symm⟩

theorem below_drewN {n : Nat} {w w' : World} (h : Below n w w') (k : Nat) : Below n w (w'.drewN k) := ⟨h.os, h.tape, h.output, h.size, h.block⟩

/-- The byte that the first two signs make. -/
def hxP : List Nat → Option Nat
  | a :: b :: _ => if hexB a && hexB b then some (hv a * 16 + hv b) else none
  | _ => none

def hxV : Option Nat → Value
  | some c => .tuple #[.int .u8 (c : Int), .bool true]
  | none => .tuple #[.int .u8 0, .bool false]

theorem nums2 {s : ByteArray} (h : 2 ≤ s.size) : nums s = nb s 0 :: nb s 1 :: (nums s).drop 2 := by
  have hl := nums_length s
  unfold nb
  generalize nums s = l at *
  match l, hl with
  | [], hl => simp at hl; omega
  | [a], hl => simp at hl; omega
  | a :: b :: r, _ => rfl

theorem nums_few {s : ByteArray} (h : s.size < 2) : hxP (nums s) = none := by
  have hl := nums_length s
  generalize nums s = l at *
  match l, hl with
  | [], _ => rfl
  | [a], _ => rfl
  | a :: b :: r, hl => simp at hl; omega

set_option maxRecDepth 100000 in
set_option maxHeartbeats 2000000 in
theorem hexbyte_any (s : ByteArray) (w : World) : Calls Try.prog 64 #[.string s] w fun e w' => e = .returned (hxV (hxP (nums s))) ∧ Below w.heap.size w w' := by
  by_cases h2 : s.size < 2
  · have hd : decide ((s.size : Int) < 2) = true := decide_eq_true (by omega)
    rw [nums_few h2]
    go_enter Try.func64, Try.ntmps64
    go_wp2
    go_ret2
    exact ⟨rfl, Below.refl _ _⟩
  · have hd : decide ((s.size : Int) < 2) = false := decide_eq_false (by omega)
    have h0i : (0 : Int) < (s.size : Int) := by omega
    have h1i : (1 : Int) < (s.size : Int) := by omega
    have h0n : 0 < s.size := by omega
    have h1n : 1 < s.size := by omega
    have n0 := nb_at s 0 (by omega)
    have n1 := nb_at s 1 (by omega)
    rw [nums2 (by omega)]
    generalize (nums s).drop 2 = r
    generalize nb s 0 = x at *
    generalize nb s 1 = y at *
    cases hx : hexB x
    · have hv0 : hxP (x :: y :: r) = none := by simp [hxP, hx]
      rw [hv0]
      clear hv0
      go_enter Try.func64, Try.ntmps64
      go_wp2_with (go_at_call 33; refine (ishex_any _ _).mono ?_; rintro e w1 ⟨rfl, rfl⟩; rw [hx])
      go_ret2
      exact ⟨rfl, Below.refl _ _⟩
    · cases hy : hexB y
      · have hv0 : hxP (x :: y :: r) = none := by simp [hxP, hy]
        rw [hv0]
        clear hv0
        go_enter Try.func64, Try.ntmps64
        go_wp2_with (go_at_call 33; refine (ishex_any _ _).mono ?_; rintro e w1 ⟨rfl, rfl⟩; first | rw [hx] | rw [hy])
        go_ret2
        exact ⟨rfl, Below.refl _ _⟩
      · have hp := hv_lt hx
        have hq := hv_lt hy
        have cx := fun w => hexval_any x w hx
        have cy := fun w => hexval_any y w hy
        have hv0 : hxP (x :: y :: r) = some (hv x * 16 + hv y) := by simp [hxP, hx, hy]
        rw [hv0]
        clear hv0
        have CX := Lib.hid cx
        have CY := Lib.hid cy
        clear cx cy
        generalize hv x = p at *
        generalize hv y = q at *
        obtain ⟨z, hz⟩ : ∃ z, p * 16 = z := ⟨_, rfl⟩
        have e1 : (p : Int) * 16 = (z : Int) := by omega
        have e2 : IntKind.u8.wrap (z : Int) = (z : Int) := by rw [IntKind.wrap_u8]; omega
        have e3 : bits .or .u8 (z : Int) (q : Int) = ((z + q : Nat) : Int) := or_u8 _ _ 4 (by omega) ⟨p, by omega⟩ (by omega) (by omega) (by omega)
        rw [hz]
        generalize z + q = t at *
        go_enter Try.func64, Try.ntmps64
        go_wp2_with (go_at_call 33; refine (ishex_any _ _).mono ?_; rintro e w1 ⟨rfl, rfl⟩; first | rw [hx] | rw [hy])
        go_quiet (first
          | (go_at_call 78; with_reducible exact Calls.quiet_of_same (same_of (CX.out _)))
          | (go_at_call 78; with_reducible exact Calls.quiet_of_same (same_of (CY.out _))))
        go_wp2
        go_ret2
        exact ⟨rfl, below_drewN (Below.refl _ _) _⟩

end Go.Proofs.Ythofhljbipkiaaa.Co
