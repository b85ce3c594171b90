import Derived.Test.YtablgpcgfogfoaaRgG
namespace Go.Proofs.Ytablgpcgfogfoaa.Rg
open Go.RowKit
open Go.Proofs.Ytablgpcgfogfoaa.Tp
set_option linter.unusedVariables false

def CrPost (T : Nat) (r : Rg) (w : World) (e : Ending) (w' : World) : Prop := ∃ x : Cr, Cw r x ∧ e = .returned (.agg (kc x)) ∧ w.grownBy w' (some T) ∧ TapeOk w' T
def zK : Array Value := #[.int .i64 0, .int .u64 0, .int .i64 0, .int .i64 0, .int .i64 0]
theorem zkCells {w : World} {g : Nat} (h : w.heap[g]? = some (.cells zK 29 (0, 0))) : w.cell? ⟨g, 0, none⟩ = some (.int .i64 0) ∧ w.cell? ⟨g, 1, none⟩ = some (.int .u64 0) ∧ w.cell? ⟨g, 2, none⟩ = some (.int .i64 0) ∧ w.cell? ⟨g, 3, none⟩ = some (.int .i64 0) ∧ w.cell? ⟨g, 4, none⟩ = some (.int .i64 0) ∧ w.frozen? ⟨g, 0, none⟩ = false ∧ w.frozen? ⟨g, 1, none⟩ = false ∧ w.frozen? ⟨g, 2, none⟩ = false ∧ w.frozen? ⟨g, 3, none⟩ = false ∧ w.frozen? ⟨g, 4, none⟩ = false := by
  refine ⟨?_, ?_, ?_, ?_, ?_, frozen_of_row _ _ _ _ _ h, frozen_of_row _ _ _ _ _ h, frozen_of_row _ _ _ _ _ h, frozen_of_row _ _ _ _ _ h, frozen_of_row _ _ _ _ _ h⟩ <;> rw [cell_of_row _ _ _ _ _ _ h] <;> rfl
theorem setRow_setCell {W : World} {g : Nat} {t : TypeId} {old : Array Value} (h : W.heap[g]? = some (.cells old t (0, 0))) (A : Array Value) (j : Nat) (q : Value) : (W.setRow g A).setCell ⟨g, j, none⟩ q = W.setRow g (A.setIfInBounds j q) := by
  rw [setCell_eq_setRow _ _ _ _ _ _ _ (setRow_heap W g old A t (0, 0) h), setRow_setRow]
theorem five {old : Array Value} (h5 : old.size = 5) (p q r s u : Value) : ((((old.setIfInBounds 0 p).setIfInBounds 1 q).setIfInBounds 2 r).setIfInBounds 3 s).setIfInBounds 4 u = #[p, q, r, s, u] := by
  obtain ⟨l⟩ := old
  match l, h5 with
  | [a, b, c, d, e], _ => rfl
theorem set5row {W : World} {g : Nat} {p q r s u : Value} {t : TypeId} {old : Array Value} (h : W.heap[g]? = some (.cells old t (0, 0))) (h5 : old.size = 5) :
    ((((W.setCell ⟨g, 0, none⟩ p).setCell ⟨g, 1, none⟩ q).setCell ⟨g, 2, none⟩ r).setCell ⟨g, 3, none⟩ s).setCell ⟨g, 4, none⟩ u = W.setRow g #[p, q, r, s, u] := by
  have e0 := setCell_eq_setRow W g 0 old t (0, 0) p h
  have e1 := setRow_setCell h (old.setIfInBounds 0 p) 1 q
  have e2 := setRow_setCell h ((old.setIfInBounds 0 p).setIfInBounds 1 q) 2 r
  have e3 := setRow_setCell h (((old.setIfInBounds 0 p).setIfInBounds 1 q).setIfInBounds 2 r) 3 s
  have e4 := setRow_setCell h ((((old.setIfInBounds 0 p).setIfInBounds 1 q).setIfInBounds 2 r).setIfInBounds 3 s) 4 u
  rw [e0, e1, e2, e3, e4, five h5]
theorem info29 (x : Cr) : (Try.prog.info? 29).map (·.size) = some (kc x).size := by
  have h : (Try.prog.info? 29).map (·.size) = some 5 := by kernel_rfl
  exact h
theorem kc_one (x : Cr) : (kc x).all (·.oneCell') = true := by simp [kc, Value.oneCell']

set_option maxRecDepth 100000 in
set_option maxHeartbeats 2000000 in
theorem cred_any (T : Nat) (r : Rg) (v : Vr) (w : World) (ht : TapeOk w T) (hT : T < w.heap.size) (h1 : 1 ≤ r.s.length) (h8 : r.s.length ≤ 8) :
    Calls Try.prog 30 #[.pointer (some ⟨T, 0, none⟩), .agg (gv r v)] w (CrPost T r w) := by
  have R0 := Lib.hid (heap_alloc2_old w (.cells (gv r v) 26) (.cells zK 29))
  have R1 := Lib.hid (heap_alloc2_new w (.cells (gv r v) 26) (.cells zK 29))
  have HT0 := Lib.hid (tape_new2 (tape_new2 ht (.cells (gv r v) 26)) (.cells zK 29))
  have HG0 := Lib.hid (gb_alloc2 (gb_alloc2 (gb_row (gb_of_below (Below.refl _ w)) : w.grownBy w (some T)) (.cells (gv r v) 26)) (.cells zK 29))
  clear ht
  unfold zK at R0 R1 HT0 HG0
  go_enter Try.func30, Try.ntmps30
  go_wp2_with fail
  generalize (w.alloc (.cells (gv r v) 26)).alloc (.cells #[.int .i64 0, .int .u64 0, .int .i64 0, .int .i64 0, .int .i64 0] 29) = W0 at *
  have l1 := row_lt R1.out
  refine (next_any T 20 _ HT0.out (by omega) (by omega)).mono ?_
  rintro e w1 ⟨z1, a1, b1, rfl, hg1, ht1⟩
  obtain ⟨f, rfl⟩ : ∃ z : Nat, z1 = z := ⟨z1.toNat, by omega⟩
  have S0 := Lib.hid ((hg1.block _ (row_lt R0.out) (by simp; omega)).trans R0.out)
  have S1 := Lib.hid ((hg1.block _ (row_lt R1.out) (by simp; omega)).trans R1.out)
  have HT1 := Lib.hid ht1
  have HG1 := Lib.hid (gb_trans HG0.out hg1)
  clear ht1 hg1
  obtain ⟨g0, g1⟩ := gvCells S0.out
  go_wp2_with fail
  refine (next_any T (r.s.length : Int) _ HT1.out (by omega) (by omega)).mono ?_
  rintro e w2 ⟨z2, a2, b2, rfl, hg2, ht2⟩
  obtain ⟨i, rfl⟩ : ∃ z : Nat, z2 = z := ⟨z2.toNat, by omega⟩
  have T1 := Lib.hid ((hg2.block _ (row_lt S1.out) (by simp; omega)).trans S1.out)
  have HT2 := Lib.hid ht2
  have HG2 := Lib.hid (gb_trans HG1.out hg2)
  clear ht2 hg2 g0 g1
  go_wp2_with fail
  refine (next_any T 5 _ HT2.out (by omega) (by omega)).mono ?_
  rintro e w3 ⟨z3, a3, b3, rfl, hg3, ht3⟩
  obtain ⟨p, rfl⟩ : ∃ z : Nat, z3 = z := ⟨z3.toNat, by omega⟩
  have U1 := Lib.hid ((hg3.block _ (row_lt T1.out) (by simp; omega)).trans T1.out)
  have HT3 := Lib.hid ht3
  have HG3 := Lib.hid (gb_trans HG2.out hg3)
  clear ht3 hg3
  go_wp2_with fail
  refine (next_any T 3 _ HT3.out (by omega) (by omega)).mono ?_
  rintro e w4 ⟨z4, a4, b4, rfl, hg4, ht4⟩
  obtain ⟨hd, rfl⟩ : ∃ z : Nat, z4 = z := ⟨z4.toNat, by omega⟩
  have V1 := Lib.hid ((hg4.block _ (row_lt U1.out) (by simp; omega)).trans U1.out)
  have HT4 := Lib.hid ht4
  have HG4 := Lib.hid (gb_trans HG3.out hg4)
  clear ht4 hg4
  go_wp2_with fail
  refine (next_any T 12 _ HT4.out (by omega) (by omega)).mono ?_
  rintro e w5 ⟨z5, a5, b5, rfl, hg5, ht5⟩
  obtain ⟨z, rfl⟩ : ∃ z : Nat, z5 = z := ⟨z5.toNat, by omega⟩
  have X1 := Lib.hid ((hg5.block _ (row_lt V1.out) (by simp; omega)).trans V1.out)
  have HT5 := Lib.hid ht5
  have HG5 := Lib.hid (gb_trans HG4.out hg5)
  clear ht5 hg5
  obtain ⟨u, hu⟩ : ∃ u : Nat, f + 1 + z = u := ⟨_, rfl⟩
  have he : (f : Int) + 1 + (z : Int) = (u : Int) := by omega
  have HU := Lib.hid hu
  clear hu
  obtain ⟨k0, k1, k2, k3, k4, k5, k6, k7, k8, k9⟩ := zkCells (g := w.heap.size + 1) X1.out
  go_wp2_with fail
  rw [set5row (g := w.heap.size + 1) X1.out rfl]
  refine bodyPost_ret (v := .agg (kc ⟨i, p, hd, f, u⟩)) (results_cell_row rfl _ _ (w.heap.size + 1) 29 (kc ⟨i, p, hd, f, u⟩) (0, 0) _ rfl (setRow_heap _ _ _ _ _ _ X1.out) Try.underlying29 rfl (info29 _)) rfl ⟨⟨i, p, hd, f, u⟩, ⟨by show i < _; omega, by show p ≤ _; omega, by show hd < _; omega, by show f < u; have := HU.out; omega, by show u ≤ _; have := HU.out; omega⟩, rfl, gb_far HG5.out (by omega) _, tape_set HT5.out (by omega) _⟩

end Go.Proofs.Ytablgpcgfogfoaa.Rg
