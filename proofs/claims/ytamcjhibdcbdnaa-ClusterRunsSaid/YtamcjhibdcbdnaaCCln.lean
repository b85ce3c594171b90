import Derived.Test.YtamcjhibdcbdnaaCEx
import Derived.Deep.RegionHeld3
namespace Go.Proofs.Ytamcjhibdcbdnaa.Cl
open Go.RowKit
open Go.Proofs.Ytamcjhibdcbdnaa.Tp
set_option linter.unusedVariables false

set_option maxRecDepth 100000 in
set_option maxHeartbeats 400000 in
theorem clone3_any (l : List Nat) (B n c : Nat) (A : Option Addr) (w : World) (h : Row w B 1 A n (iv l)) (hn : n ≤ 1000) :
    Calls Try.prog 80 #[.slice A n c] w fun e w' => ∃ A' c', e = .returned (.slice A' n c') ∧ w'.ownsRow w.heap.size 3 1 (.slice A' n c') n (iv l) ∧ Below w.heap.size w w' := by
  cases A with
  | none =>
    obtain rfl : n = 0 := by
      by_cases h0 : n = 0
      · exact h0
      · obtain ⟨b, off, e, _⟩ := h.mem (by omega)
        cases e
    have hl : iv l = [] := List.eq_nil_of_length_eq_zero (by rw [h.len, Nat.zero_mul])
    rw [hl]
    have hnil : ∀ W : World, (binOp .eql 22 (.slice none 0 c) (.slice none 0 0)).run Try.prog W = .ok (.bool true) W := fun W => Lib.run_eql_slice_nil W 22 3 _ 0 c 0 0 Try.underlying22
    clear h
    go_enter Try.func80, Try.ntmps80
    go_wp2
    go_ret
    exact ⟨none, 0, rfl, own_nil _ _ _ _, Below.refl _ _⟩
  | some ad =>
    have HB := Lib.hid (h.below (box_below w (.cells #[] 3)))
    have HLEN := Lib.hid h.len
    have hnil : ∀ W : World, (binOp .eql 22 (.slice (some ad) n c) (.slice none 0 0)).run Try.prog W = .ok (.bool false) W := fun W => Lib.run_eql_slice_nil W 22 3 _ n c 0 0 Try.underlying22
    clear h
    obtain ⟨i0, hi, hz0, hz1, hz2⟩ := info_parts zinfo3
    have HI := Lib.hid hi
    have HZ0 := Lib.hid hz0
    have HZ1 := Lib.hid hz1
    have HZ2 := Lib.hid hz2
    clear hi hz0 hz1 hz2
    go_enter Try.func80, Try.ntmps80
    go_wp2_with (at_builtin; refine app_list rfl (.tmp 5) (.tmp 6) w.heap.size B 22 3 rfl i0 _ 1 8 Try.underlying22 HI.out HZ0.out HZ1.out HZ2.out rfl (by omega) _ 0 [] rfl ?_ (some ad) n c (iv l) rfl HB.out (iv_one l) (by omega) (by omega) (by simp) ?_; (exact World.ownsRow_lit _ #[] 0 (Nat.le_refl _) (by unfold maxLen; omega) rfl); intro v1 w3 own1 gr1 _; have HO := Lib.hid own1; have HG := Lib.hid gr1; clear own1 gr1)
    go_ret
    have ho := HO.out
    rw [List.nil_append, Nat.zero_add] at ho
    obtain ⟨A', c', rfl, hrow⟩ := own_row ho HLEN.out
    exact ⟨A', c', rfl, ho, ((Below.refl _ w).alloc (Nat.le_refl _) _).grown HG.out (by simp) (fun g e => by cases e; exact Nat.le_refl _)⟩

set_option maxRecDepth 100000 in
set_option maxHeartbeats 400000 in
theorem clone60_any (l : List (Nat × Bool)) (B n c : Nat) (A : Option Addr) (w : World) (h : Row w B 2 A n (rv l)) (hn : n ≤ 1000) :
    Calls Try.prog 81 #[.slice A n c] w fun e w' => ∃ A' c', e = .returned (.slice A' n c') ∧ w'.ownsRow w.heap.size 60 2 (.slice A' n c') n (rv l) ∧ Below w.heap.size w w' := by
  cases A with
  | none =>
    obtain rfl : n = 0 := by
      by_cases h0 : n = 0
      · exact h0
      · obtain ⟨b, off, e, _⟩ := h.mem (by omega)
        cases e
    have hl : rv l = [] := List.eq_nil_of_length_eq_zero (by rw [h.len, Nat.zero_mul])
    rw [hl]
    have hnil : ∀ W : World, (binOp .eql 23 (.slice none 0 c) (.slice none 0 0)).run Try.prog W = .ok (.bool true) W := fun W => Lib.run_eql_slice_nil W 23 60 _ 0 c 0 0 Try.underlying23
    clear h
    go_enter Try.func81, Try.ntmps81
    go_wp2
    go_ret
    exact ⟨none, 0, rfl, own_nil _ _ _ _, Below.refl _ _⟩
  | some ad =>
    have HB := Lib.hid (h.below (box_below w (.cells #[] 60)))
    have HLEN := Lib.hid h.len
    have hnil : ∀ W : World, (binOp .eql 23 (.slice (some ad) n c) (.slice none 0 0)).run Try.prog W = .ok (.bool false) W := fun W => Lib.run_eql_slice_nil W 23 60 _ n c 0 0 Try.underlying23
    clear h
    obtain ⟨i0, hi, hz0, hz1, hz2⟩ := info_parts zinfo60
    have HI := Lib.hid hi
    have HZ0 := Lib.hid hz0
    have HZ1 := Lib.hid hz1
    have HZ2 := Lib.hid hz2
    clear hi hz0 hz1 hz2
    go_enter Try.func81, Try.ntmps81
    go_wp2_with (at_builtin; refine app_list rfl (.tmp 5) (.tmp 6) w.heap.size B 23 60 rfl i0 _ 2 16 Try.underlying23 HI.out HZ0.out HZ1.out HZ2.out rfl (by omega) _ 0 [] rfl ?_ (some ad) n c (rv l) rfl HB.out (rv_one l) (by omega) (by omega) (by simp) ?_; (exact World.ownsRow_lit _ #[] 0 (Nat.le_refl _) (by unfold maxLen; omega) rfl); intro v1 w3 own1 gr1 _; have HO := Lib.hid own1; have HG := Lib.hid gr1; clear own1 gr1)
    go_ret
    have ho := HO.out
    rw [List.nil_append, Nat.zero_add] at ho
    obtain ⟨A', c', rfl, hrow⟩ := own_row ho HLEN.out
    exact ⟨A', c', rfl, ho, ((Below.refl _ w).alloc (Nat.le_refl _) _).grown HG.out (by simp) (fun g e => by cases e; exact Nat.le_refl _)⟩

end Go.Proofs.Ytamcjhibdcbdnaa.Cl
