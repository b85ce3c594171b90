import Derived.Test.YtlmpbfijgnkpkaaDjD
import Derived.OwnWalk
namespace Go.Proofs.Ytlmpbfijgnkpkaa.Di
open Go.RowKit
open Go.Proofs.Ytlmpbfijgnkpkaa.Tp
set_option linter.unusedVariables false

/-- The example's directory and stewards. -/
def d0 : Dy := ⟨[1, 2, 3], []⟩
def l0 : List Sw := [⟨0, 2, 1⟩, ⟨0, 1, 0⟩]
theorem d0_ok : Ok d0 := by
  refine ⟨by decide, by decide, fun p hp => ?_, fun j hj => absurd hj (Nat.not_lt_zero _), fun j hj => absurd hj (Nat.not_lt_zero _)⟩
  have : p < 3 := hp
  rcases (by omega : p = 0 ∨ p = 1 ∨ p = 2) with rfl | rfl | rfl <;> decide
theorem l0_ok : SOk 3 l0 := by
  refine ⟨by decide, fun j hj => ?_, fun j hj => ?_⟩
  · have : j < 2 := hj
    rcases (by omega : j = 0 ∨ j = 1) with rfl | rfl <;> decide
  · have : j + 1 < 2 := hj
    obtain rfl : j = 0 := by omega
    decide
def f0 (q : Nat) : Int := stw l0 q 0
theorem f0_0 : f0 0 = -1 := by decide
theorem f0_1 : f0 1 = 0 := by decide
theorem f0_2 : f0 2 = 1 := by decide
theorem wy2 : Wy f0 3 2 [2, 1, 0] := by
  refine ⟨by decide, rfl, by decide, by decide, fun i hi => ?_, .inl (by decide)⟩
  have : i + 1 < 3 := hi
  rcases (by omega : i = 0 ∨ i = 1) with rfl | rfl <;> decide
theorem wy1 : Wy f0 3 1 [1, 0] := by
  refine ⟨by decide, rfl, by decide, by decide, fun i hi => ?_, .inl (by decide)⟩
  have : i + 1 < 2 := hi
  obtain rfl : i = 0 := by omega
  decide
theorem wy0 : Wy f0 3 0 [0] := by
  refine ⟨by decide, rfl, by decide, by decide, fun i hi => ?_, .inl (by decide)⟩
  have : i + 1 < 1 := hi
  omega
theorem onr2 : onr d0 l0 0 2 = some 0 := by
  show fp d0 (wayOf f0 3 2) = some 0
  rw [wy2.eq]; decide
theorem onr1 : onr d0 l0 0 1 = some 0 := by
  show fp d0 (wayOf f0 3 1) = some 0
  rw [wy1.eq]; decide
theorem onr0 : onr d0 l0 0 0 = some 0 := by
  show fp d0 (wayOf f0 3 0) = some 0
  rw [wy0.eq]; decide
theorem own_all (q : Nat) (hq : q < 3) : ownB d0 l0 0 0 q = true := by
  rcases (by omega : q = 0 ∨ q = 1 ∨ q = 2) with rfl | rfl | rfl
  · unfold ownB; rw [onr0]; rfl
  · unfold ownB; rw [onr1]; rfl
  · unfold ownB; rw [onr2]; rfl
theorem cnt3 {p : Nat → Bool} (h : ∀ q, q < 3 → p q = true) : cnt p 3 = 3 ∧ idx p 3 = [0, 1, 2] := by
  have h0 := h 0 (by omega)
  have h1 := h 1 (by omega)
  have h2 := h 2 (by omega)
  simp [cnt, idx, h0, h1, h2]
def v0 (n : Nat) : Vd := ⟨some ⟨n, 0, none⟩, 3, none, 0⟩

set_option maxRecDepth 100000 in
set_option maxHeartbeats 1000000 in
theorem awake_any (w : World) : Calls Try.prog 8 #[] w fun e w' => e = .returned (.bool true) ∧ Below w.heap.size w w' := by
  obtain ⟨-, z0, z1, z2, hb0⟩ := boxes3 w (.cells #[.int .i64 1, .int .i64 2, .int .i64 3] 3) (.cells #[.slice (some ⟨w.heap.size, 0, none⟩) 3 3, .slice none 0 0] 25) (.cells #[.int .i64 0, .int .i64 2, .int .i64 1, .int .i64 0, .int .i64 1, .int .i64 0] 35)
  have hdl : DL (((w.alloc (.cells #[.int .i64 1, .int .i64 2, .int .i64 3] 3)).alloc (.cells #[.slice (some ⟨w.heap.size, 0, none⟩) 3 3, .slice none 0 0] 25)).alloc (.cells #[.int .i64 0, .int .i64 2, .int .i64 1, .int .i64 0, .int .i64 1, .int .i64 0] 35)) 0 d0 (v0 w.heap.size) := by
    refine ⟨⟨rfl, fun _ => ⟨w.heap.size, 0, rfl, Nat.zero_le _, row_lt z0, fun j u hj => ?_⟩⟩, ⟨rfl, fun h => absurd h (by decide)⟩⟩
    rw [Nat.zero_add, cell_of_row _ _ _ _ _ _ z0, ← Array.getElem?_toList]
    exact hj
  have hsl : Row (((w.alloc (.cells #[.int .i64 1, .int .i64 2, .int .i64 3] 3)).alloc (.cells #[.slice (some ⟨w.heap.size, 0, none⟩) 3 3, .slice none 0 0] 25)).alloc (.cells #[.int .i64 0, .int .i64 2, .int .i64 1, .int .i64 0, .int .i64 1, .int .i64 0] 35)) 0 3 (some ⟨w.heap.size + 1 + 1, 0, none⟩) l0.length (sv l0) := by
    refine ⟨rfl, fun _ => ⟨w.heap.size + 1 + 1, 0, rfl, Nat.zero_le _, row_lt z2, fun j u hj => ?_⟩⟩
    rw [Nat.zero_add, cell_of_row _ _ _ _ _ _ z2, ← Array.getElem?_toList]
    exact hj
  have hgd : gd d0 (v0 w.heap.size) = #[.slice (some ⟨w.heap.size, 0, none⟩) 3 3, .slice none 0 0] := rfl
  have hll : l0.length = 2 := rfl
  have c1 : ((1 : Nat) : Int) = 1 := rfl
  have c2 : ((2 : Nat) : Int) = 2 := rfl
  obtain ⟨W, hW⟩ : ∃ W, ((w.alloc (.cells #[.int .i64 1, .int .i64 2, .int .i64 3] 3)).alloc (.cells #[.slice (some ⟨w.heap.size, 0, none⟩) 3 3, .slice none 0 0] 25)).alloc (.cells #[.int .i64 0, .int .i64 2, .int .i64 1, .int .i64 0, .int .i64 1, .int .i64 0] 35) = W := ⟨_, rfl⟩
  rw [hW] at z1 hb0 hdl hsl
  have HZ1 := Lib.hid z1
  have HB0 := Lib.hid hb0
  have HW := Lib.hid hW
  clear z0 z1 z2 hb0 hW
  have ho2 : ∀ w', Below W.heap.size W w' → Calls Try.prog 15 #[.agg #[.slice (some ⟨w.heap.size, 0, none⟩) 3 3, .slice none 0 0], .slice (some ⟨w.heap.size + 1 + 1, 0, none⟩) 2 2, .int .i64 2, .int .i64 0] w' fun e w'' => e = .returned (.tuple #[.int .i64 0, .bool true]) ∧ Below w'.heap.size w' w'' := fun w' hw => by
    have h := owner15_any 0 d0 (v0 w.heap.size) l0 (some ⟨w.heap.size + 1 + 1, 0, none⟩) 2 2 0 w' (hdl.below hw) (hsl.below hw) d0_ok l0_ok (by decide)
    simp only [hgd, hll, c2, onr2, opV] at h
    exact h
  have ho1 : ∀ w', Below W.heap.size W w' → Calls Try.prog 15 #[.agg #[.slice (some ⟨w.heap.size, 0, none⟩) 3 3, .slice none 0 0], .slice (some ⟨w.heap.size + 1 + 1, 0, none⟩) 2 2, .int .i64 1, .int .i64 0] w' fun e w'' => e = .returned (.tuple #[.int .i64 0, .bool true]) ∧ Below w'.heap.size w' w'' := fun w' hw => by
    have h := owner15_any 0 d0 (v0 w.heap.size) l0 (some ⟨w.heap.size + 1 + 1, 0, none⟩) 2 1 0 w' (hdl.below hw) (hsl.below hw) d0_ok l0_ok (by decide)
    simp only [hgd, hll, c1, onr1, opV] at h
    exact h
  have hwy : ∀ w', Below W.heap.size W w' → Calls Try.prog 20 #[.agg #[.slice (some ⟨w.heap.size, 0, none⟩) 3 3, .slice none 0 0], .slice (some ⟨w.heap.size + 1 + 1, 0, none⟩) 2 2, .int .i64 2, .int .i64 0] w' fun e w'' => ∃ A cc, e = .returned (.slice A 3 cc) ∧ Row w'' 0 1 A 3 (iv [2, 1, 0]) ∧ Below w'.heap.size w' w'' := fun w' hw => by
    have h := way20_any 0 d0 (v0 w.heap.size) l0 (some ⟨w.heap.size + 1 + 1, 0, none⟩) 2 2 0 w' (hdl.below hw) (hsl.below hw) d0_ok l0_ok (by decide)
    simp only [hgd, hll, c2] at h
    refine h.mono ?_
    rintro e w2 ⟨c, A, cc, rfl, hc, hown, hb⟩
    obtain rfl := Wy.uniq (f := f0) hc wy2
    exact ⟨A, cc, rfl, (row_of_own hown).base (Nat.zero_le _), hb⟩
  have hod : ∀ w', Below W.heap.size W w' → Calls Try.prog 24 #[.agg #[.slice (some ⟨w.heap.size, 0, none⟩) 3 3, .slice none 0 0], .slice (some ⟨w.heap.size + 1 + 1, 0, none⟩) 2 2, .int .i64 0, .int .i64 0] w' fun e w'' => ∃ A cc, e = .returned (.slice A 3 cc) ∧ Row w'' 0 1 A 3 (iv [0, 1, 2]) ∧ Below w'.heap.size w' w'' := fun w' hw => by
    have h := owned_any 0 d0 (v0 w.heap.size) l0 (some ⟨w.heap.size + 1 + 1, 0, none⟩) 2 0 0 w' (hdl.below hw) (hsl.below hw) d0_ok l0_ok
    simp only [hgd, hll] at h
    refine h.mono ?_
    rintro e w2 ⟨A, cc, rfl, hown, hb⟩
    have h3 : d0.k.length = 3 := rfl
    rw [h3, (cnt3 own_all).1, (cnt3 own_all).2] at hown
    rw [h3, (cnt3 own_all).1]
    exact ⟨A, cc, rfl, (row_of_own hown).base (Nat.zero_le _), hb⟩
  have HO2 := Lib.hid ho2
  have HO1 := Lib.hid ho1
  have HWY := Lib.hid hwy
  have HOD := Lib.hid hod
  have HR := Lib.hid (Below.refl W.heap.size W)
  have HGC := Lib.hid (fun w' (hw : Below W.heap.size W w') => gc2 ((hw.block _ (row_lt HZ1.out)).trans HZ1.out))
  clear ho2 ho1 hwy hod hdl hsl hgd hll c1 c2
  go_enter Try.func8, Try.ntmps8
  go_wp2_with fail
  rw [HW.out]
  refine (HO2.out _ HR.out).mono ?_
  rintro e w1 ⟨rfl, hb1⟩
  have B1 := Lib.hid hb1
  obtain ⟨g0, g1⟩ := HGC.out _ hb1
  clear hb1
  go_wp2_with fail
  refine (HO1.out _ B1.out).mono ?_
  rintro e w2 ⟨rfl, hb2⟩
  have B2 := Lib.hid (B1.out.trans (hb2.mono B1.out.size))
  obtain ⟨k0, k1⟩ := HGC.out _ B2.out
  clear hb2
  go_wp2_with (first
    | (go_at_call 20; (with_reducible refine (HWY.out _ B2.out).mono ?_); rintro e w3 ⟨A, cc, rfl, hr3, hb3⟩; have B3 := Lib.hid (B2.out.trans (hb3.mono B2.out.size)); have hbx := box_below w3 (.cells #[.int .i64 2, .int .i64 1, .int .i64 0] 3); have HL3 := Lib.hid (lits_row w3 w3.heap.size rfl [2, 1, 0] #[.int .i64 2, .int .i64 1, .int .i64 0] rfl 3); have B4 := Lib.hid (B3.out.trans (hbx.mono B3.out.size)); have HIS := Lib.hid (ints_same A (some ⟨w3.heap.size, 0, none⟩) 3 cc 3 [2, 1, 0] (w3.alloc (.cells #[.int .i64 2, .int .i64 1, .int .i64 0] 3)) (hr3.below hbx) (HL3.out.base (Nat.zero_le _)) (by omega)); clear hb3 hr3 hbx)
    | (go_at_call 19; (with_reducible refine HIS.out.mono ?_); rintro e w5 ⟨rfl, hb5⟩; have B5 := Lib.hid (B4.out.trans (hb5.mono B4.out.size)); obtain ⟨m0', m1'⟩ := HGC.out _ B5.out; clear hb5 HIS)
    | (go_at_call 24; (with_reducible refine (HOD.out _ B5.out).mono ?_); rintro e w6 ⟨A6, c6, rfl, hr6, hb6⟩; have B6 := Lib.hid (B5.out.trans (hb6.mono B5.out.size)); have hbx := box_below w6 (.cells #[.int .i64 0, .int .i64 1, .int .i64 2] 3); have HL6 := Lib.hid (lits_row w6 w6.heap.size rfl [0, 1, 2] #[.int .i64 0, .int .i64 1, .int .i64 2] rfl 3); have B7 := Lib.hid (B6.out.trans (hbx.mono B6.out.size)); have HIT := Lib.hid (ints_same A6 (some ⟨w6.heap.size, 0, none⟩) 3 c6 3 [0, 1, 2] (w6.alloc (.cells #[.int .i64 0, .int .i64 1, .int .i64 2] 3)) (hr6.below hbx) (HL6.out.base (Nat.zero_le _)) (by omega)); clear hb6 hr6 hbx)
    | (go_at_call 19; (with_reducible refine HIT.out.mono ?_); rintro e w8 ⟨rfl, hb8⟩; have B8 := Lib.hid (B7.out.trans (hb8.mono B7.out.size)); clear hb8))
  go_ret
  exact ⟨by first | rfl | simp, HB0.out.trans (B8.out.mono HB0.out.size)⟩

end Go.Proofs.Ytlmpbfijgnkpkaa.Di
