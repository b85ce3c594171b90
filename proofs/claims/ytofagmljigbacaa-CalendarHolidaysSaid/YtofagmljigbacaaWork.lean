import Derived.Test.YtofagmljigbacaaFns
namespace Go.Proofs.Ytofagmljigbacaa.Cal
open Go.RowKit
set_option linter.unusedVariables false

/-- A calendar's five cells. -/
def calC (D F T W : Nat) (A : Option Addr) (n c : Nat) : Array Value := #[.int .i64 (D : Int), .int .i64 (F : Int), .int .i64 (T : Int), .int .i64 (W : Int), .slice A n c]

theorem calCells {w : World} {g : Nat} {D F T W : Nat} {A : Option Addr} {n c : Nat} {fr : Nat × Nat} (h : w.heap[g]? = some (.cells (calC D F T W A n c) 24 fr)) :
    w.cell? ⟨g, 0, none⟩ = some (.int .i64 (D : Int)) ∧ w.cell? ⟨g, 1, none⟩ = some (.int .i64 (F : Int)) ∧ w.cell? ⟨g, 2, none⟩ = some (.int .i64 (T : Int)) ∧ w.cell? ⟨g, 3, none⟩ = some (.int .i64 (W : Int)) ∧ w.cell? ⟨g, 4, none⟩ = some (.slice A n c) := by
  refine ⟨?_, ?_, ?_, ?_, ?_⟩ <;> rw [cell_of_row _ _ _ _ _ _ h] <;> rfl

theorem and_1 (n : Int) : bits .and .i64 n 1 = n % 2 := by
  have h127 : (BitVec.ofInt 64 1).toNat = 2 ^ 1 - 1 := by decide
  have key : (BitVec.ofInt 64 n &&& BitVec.ofInt 64 1).toNat = (n % ((2 ^ 64 : Nat) : Int)).toNat % 2 ^ 1 := by
    rw [BitVec.toNat_and, BitVec.toNat_ofInt, h127, Nat.and_two_pow_sub_one_eq_mod]
  show IntKind.i64.wrap ((BitVec.ofInt 64 n &&& BitVec.ofInt 64 1).toNat : Nat) = n % 2
  rw [key, IntKind.wrap_i64]
  omega

theorem below_drewN {B : Nat} {a w : World} (h : Below B a w) (n : Nat) : Below B a (w.drewN n) := h.trans ⟨rfl, rfl, rfl, Nat.le_refl _, fun _ _ => rfl⟩

set_option maxRecDepth 100000 in
set_option maxHeartbeats 400000 in
theorem working_core (D F T W q r m : Nat) (A : Option Addr) (n c : Nat) (hs : List Nat) (t : Nat) (w : World) (hD : 1 ≤ D) (hW : W < 128) (h : Hol w A n hs) (ht : t ≤ 1000000)
    (hq : q ≤ t) (hr : r ≤ 1000000) (hm : m ≤ 1) (e1 : wrap64 ((t : Int) / (D : Int)) = (q : Int)) (e2 : (t : Int).tmod (D : Int) = (r : Int)) (e3 : bits .and .i64 ((W : Int) / 2 ^ (q % 7)) 1 = (m : Int)) :
    Calls Try.prog 27 #[.agg (calC D F T W A n c), .int .i64 (t : Int)] w fun e w' => e = .returned (.bool (decide (F ≤ r) && decide (r < T) && decide (m = 1) && decide (q ∉ hs))) ∧ Below w.heap.size w w' := by
  have hb : ∀ w', Below w.heap.size w w' → Calls Try.prog 30 #[.slice A n c, .int .i64 (q : Int)] w' (Found hs q w') := fun w' hb => bin_any A n c q hs w' (h.below hb) (by omega)
  have HB := Lib.hid hb
  clear h hb
  obtain ⟨c0, c1, c2, c3, c4⟩ := calCells (w := w.alloc (.cells (calC D F T W A n c) 24)) (heap_alloc_new w _)
  have hbl : Below w.heap.size w (w.alloc (.cells (calC D F T W A n c) 24)) := (Below.refl _ _).alloc (Nat.le_refl _) _
  have HBL := Lib.hid hbl
  clear hbl
  by_cases hF : F ≤ r
  · by_cases hT : r < T
    · by_cases hm1 : m = 1
      · have hfin : (decide (F ≤ r) && decide (r < T) && decide (m = 1) && decide (q ∉ hs)) = !decide (q ∈ hs) := by simp [hF, hT, hm1]
        have HFIN := Lib.hid hfin
        subst hm1
        clear hfin
        go_enter Try.func27, Try.ntmps27
        go_wp2
        go_quiet (fail)
        clear e2
        go_wp2_with (go_at_call 30; refine (HB.out _ (below_drewN HBL.out _)).mono ?_; rintro e w' ⟨i, rfl, rfl⟩)
        go_ret
        exact ⟨by rw [HFIN.out]; rfl, below_drewN HBL.out _⟩
      · have hfin : (decide (F ≤ r) && decide (r < T) && decide (m = 1) && decide (q ∉ hs)) = false := by simp [hm1]
        have HFIN := Lib.hid hfin
        obtain rfl : m = 0 := by omega
        clear hfin
        go_enter Try.func27, Try.ntmps27
        go_wp2
        go_quiet (fail)
        clear e2
        go_wp2
        go_ret
        exact ⟨by rw [HFIN.out]; rfl, below_drewN HBL.out _⟩
    · have hfin : (decide (F ≤ r) && decide (r < T) && decide (m = 1) && decide (q ∉ hs)) = false := by simp [hT]
      have HFIN := Lib.hid hfin
      have hT2 : T ≤ r := by omega
      clear hfin hT
      go_enter Try.func27, Try.ntmps27
      go_wp2
      go_quiet (fail)
      clear e2
      go_wp2
      go_ret
      exact ⟨by rw [HFIN.out]; rfl, below_drewN HBL.out _⟩
  · have hfin : (decide (F ≤ r) && decide (r < T) && decide (m = 1) && decide (q ∉ hs)) = false := by simp [hF]
    have HFIN := Lib.hid hfin
    have hF2 : r < F := by omega
    clear hfin hF
    go_enter Try.func27, Try.ntmps27
    go_wp2
    go_quiet (fail)
    clear e2
    go_wp2
    go_ret
    exact ⟨by rw [HFIN.out]; rfl, below_drewN HBL.out _⟩

theorem working_any (D F T W : Nat) (A : Option Addr) (n c : Nat) (hs : List Nat) (t : Nat) (w : World) (hD : 1 ≤ D) (hW : W < 128) (h : Hol w A n hs) (ht : t ≤ 1000000) :
    Calls Try.prog 27 #[.agg (calC D F T W A n c), .int .i64 (t : Int)] w fun e w' => e = .returned (.bool (wk D F T W hs t)) ∧ Below w.heap.size w w' := by
  have hq : t / D ≤ t := Nat.div_le_self _ _
  have hr : t % D ≤ t := Nat.mod_le _ _
  have ed : (t : Int) / (D : Int) = ((t / D : Nat) : Int) := by simp
  refine working_core D F T W (t / D) (t % D) (W / 2 ^ (t / D % 7) % 2) A n c hs t w hD hW h ht hq (by omega) (by omega) ?_ ?_ ?_
  · rw [ed]
    have hq' : ((t / D : Nat) : Int) ≤ (t : Int) := Int.ofNat_le.2 hq
    have h0 := Int.natCast_nonneg (t / D)
    generalize ((t / D : Nat) : Int) = z at *
    exact IntWalk.wrap64_in _ (by omega)
  · rw [Int.tmod_eq_emod_of_nonneg (by omega)]
    simp
  · rw [and_1]
    simp
end Go.Proofs.Ytofagmljigbacaa.Cal
