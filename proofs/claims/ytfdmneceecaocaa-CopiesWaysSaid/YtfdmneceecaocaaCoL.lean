import Derived.Test.YtfdmneceecaocaaCoK
namespace Go.Proofs.Ytfdmneceecaocaa.Di
open Go.RowKit
open Go.Proofs.Ytfdmneceecaocaa.Tp
set_option linter.unusedVariables false
set_option linter.unusedSimpArgs false

theorem below_dn {B : Nat} {w w2 : World} (h : Below B w w2) (n : Nat) : Below B w (w2.drewN n) := ⟨h.os, h.tape, h.output, h.size, h.block⟩
set_option maxRecDepth 100000 in
set_option maxHeartbeats 8000000 in
theorem proves_ex (v : Ve) (W : Option Addr) (cc : Nat) (w : World) (h : EL w 0 exC v) (hvc : 3 ≤ v.c) (hv : VaY exC v w) (hr : Row w 0 1 W 2 (iv [0, 1])) :
    Calls Try.prog 42 #[.agg (ge exC v), .int .i64 3, .int .i64 1, .int .i64 5, .slice W 2 cc] w fun e w' => e = .returned (.bool true) ∧ Below w.heap.size w w' := by
  obtain ⟨A, vc⟩ := v
  obtain ⟨b, off, hA, -, hbk, -⟩ := Row.ac h (i := 0) (by decide)
  have hA : A = some ⟨b, off, none⟩ := hA
  subst hA
  have HEV := Lib.hid (fun w' (hb : Below w.heap.size w w') => (by
    obtain ⟨b0, o0, e0, -, -, a0⟩ := (Row.below h hb).ac (i := 0) (by decide)
    obtain ⟨b1, o1, e1, -, -, a1⟩ := (Row.below h hb).ac (i := 1) (by decide)
    obtain ⟨b2, o2, e2, -, -, a2⟩ := (Row.below h hb).ac (i := 2) (by decide)
    cases e0; cases e1; cases e2
    exact ⟨a0, a1, a2⟩ : AcAt w' b (off + 0 * 7) ⟨1, 5, 0, 0, 0, 3, 0⟩ ∧ AcAt w' b (off + 1 * 7) ⟨2, 7, 1, 0, 0, 0, 0⟩ ∧ AcAt w' b (off + 2 * 7) ⟨3, 6, 0, 0, 0, 3, 0⟩))
  obtain ⟨bw, ow, hW, -, -, -⟩ := hr.int (i := 0) (by decide)
  subst hW
  have HWV := Lib.hid (fun w' (hb : Below w.heap.size w w') => (by
    obtain ⟨b0, o0, e0, -, -, a0⟩ := (hr.below hb).int (i := 0) (by decide)
    obtain ⟨b1, o1, e1, -, -, a1⟩ := (hr.below hb).int (i := 1) (by decide)
    cases e0; cases e1
    exact ⟨a0, a1⟩ : w'.cell? ⟨bw, ow, none⟩ = some (.int .i64 0) ∧ w'.cell? ⟨bw, ow + 1, none⟩ = some (.int .i64 1)))
  have HB0 := Lib.hid (box_below w (.cells (ge exC ⟨some ⟨b, off, none⟩, vc⟩) 25))
  have HR0 := Lib.hid (heap_alloc_new w (.cells (ge exC ⟨some ⟨b, off, none⟩, vc⟩) 25))
  obtain ⟨c0, c1⟩ := geCells HR0.out
  have HF := Lib.hid (show (#[.int .i64 2, .slice (some ⟨b, off, none⟩) 3 vc] : Array Value) = ge exC ⟨some ⟨b, off, none⟩, vc⟩ from rfl)
  replace c0 : World.cell? _ _ = some (.int .i64 2) := c0
  replace c1 : World.cell? _ _ = some (.slice (some ⟨b, off, none⟩) 3 vc) := c1
  have HRI := Lib.hid (fun w' (hb : Below w.heap.size w w') => right_yes exC _ 3 w' (hv.below hb) (by decide))
  have HPL := Lib.hid (fun w' (hb : Below w.heap.size w w') => place_yes exC _ 1 w' (hv.below hb) (by decide) (by decide))
  have HHA := Lib.hid (fun w' (hb : Below w.heap.size w w') => (show Calls Try.prog 61 #[.agg (ge exC ⟨some ⟨b, off, none⟩, vc⟩), .int .i64 5] w' (fun e w2 => e = .returned (.int .i64 3) ∧ Below w'.heap.size w' w2) from happened_all exC ⟨some ⟨b, off, none⟩, vc⟩ 5 w' (Row.below h hb) (by decide) (fun j hj => by
    have hj : j < 3 := hj
    rcases (by omega : j = 0 ∨ j = 1 ∨ j = 2) with rfl | rfl | rfl <;> decide)))
  clear h hv hr
  go_enter Try.func42, Try.ntmps42
  go_wp2_with (first
    | (go_at_call 63; rw [HF.out]; refine (HRI.out _ HB0.out).mono ?_; rintro e w1 ⟨rfl, hb1⟩; have HB1 := Lib.hid (HB0.out.trans (hb1.mono HB0.out.size)); have M1 := Lib.hid ((hb1.block _ (row_lt HR0.out)).trans HR0.out); clear hb1 c0 c1; obtain ⟨c0, c1⟩ := geCells M1.out; replace c0 : World.cell? _ _ = some (.int .i64 2) := c0; replace c1 : World.cell? _ _ = some (.slice (some ⟨b, off, none⟩) 3 vc) := c1)
    | (go_at_call 53; rw [HF.out]; refine (HPL.out _ HB1.out).mono ?_; rintro e w2 ⟨rfl, hb2⟩; have HB2 := Lib.hid (HB1.out.trans (hb2.mono HB1.out.size)); have M2 := Lib.hid ((hb2.block _ (row_lt M1.out)).trans M1.out); clear hb2 c0 c1))
  go_loopw [34] (fun ii wr => ∃ k : Nat, k ≤ 2 ∧ ii = .int .i64 (k : Int) ∧ Below w2.heap.size w2 wr) (fun ii _ => 2 - (intOf ii).toNat)
  case atStart => exact ⟨0, by omega, rfl, Below.refl _ _⟩
  case round =>
    obtain ⟨k, hk, rfl, hbl⟩ := hrel
    have HBL := Lib.hid (HB2.out.trans (hbl.mono HB2.out.size))
    have HRL := Lib.hid hbl
    have MR := Lib.hid ((hbl.block _ (row_lt M2.out)).trans M2.out)
    clear hbl
    obtain ⟨v0, v1⟩ := HWV.out _ HBL.out
    obtain ⟨⟨p0, p1, p2, p3, p4, p5, p6⟩, ⟨q0, q1, q2, q3, q4, q5, q6⟩, ⟨r0, r1, r2, r3, r4, r5, r6⟩⟩ := HEV.out _ HBL.out
    simp only [Nat.zero_mul, Nat.add_zero, Nat.one_mul] at p0 p1 p2 p3 p4 p5 p6 q0 q1 q2 q3 q4 q5 q6 r0 r1 r2 r3 r4 r5 r6
    obtain ⟨c0, c1⟩ := geCells MR.out
    replace c0 : World.cell? _ _ = some (.int .i64 2) := c0
    replace c1 : World.cell? _ _ = some (.slice (some ⟨b, off, none⟩) 3 vc) := c1
    rcases (by omega : k = 0 ∨ k = 1 ∨ k = 2) with rfl | rfl | rfl
    · have hbx := box_below wr (.cells #[.int .i64 1, .int .i64 5, .int .i64 0, .int .i64 0, .int .i64 0, .int .i64 3, .int .i64 0] 52)
      have BX := Lib.hid (HBL.out.trans (hbx.mono HBL.out.size))
      have RX := Lib.hid (HRL.out.trans (hbx.mono HRL.out.size))
      have MX := Lib.hid ((hbx.block _ (row_lt MR.out)).trans MR.out)
      have XN := Lib.hid (heap_alloc_new wr (.cells #[.int .i64 1, .int .i64 5, .int .i64 0, .int .i64 0, .int .i64 0, .int .i64 3, .int .i64 0] 52))
      obtain ⟨n0, n1, n2, n3, n4, n5, n6⟩ := accCells (x := ⟨1, 5, 0, 0, 0, 3, 0⟩) XN.out
      simp only at n0 n1 n2 n3 n4 n5 n6
      clear hbx
      obtain ⟨xv0, xv1⟩ := HWV.out _ BX.out
      obtain ⟨⟨xp0, xp1, xp2, xp3, xp4, xp5, xp6⟩, ⟨xq0, xq1, xq2, xq3, xq4, xq5, xq6⟩, ⟨xr0, xr1, xr2, xr3, xr4, xr5, xr6⟩⟩ := HEV.out _ BX.out
      simp only [Nat.zero_mul, Nat.add_zero, Nat.one_mul] at xp0 xp1 xp2 xp3 xp4 xp5 xp6 xq0 xq1 xq2 xq3 xq4 xq5 xq6 xr0 xr1 xr2 xr3 xr4 xr5 xr6
      obtain ⟨xc0, xc1⟩ := geCells MX.out
      replace xc0 : World.cell? _ _ = some (.int .i64 2) := xc0
      replace xc1 : World.cell? _ _ = some (.slice (some ⟨b, off, none⟩) 3 vc) := xc1
      have hv1 : ¬ vc = 1 := by omega
      go_wp2_with fail
      go_quiet (fail)
      go_wp2_with (go_at_call 61; rw [HF.out]; refine (HHA.out _ (below_dn BX.out _)).mono ?_; rintro e w8 ⟨rfl, hb8⟩; have B8 := Lib.hid ((below_dn RX.out _).trans (hb8.mono RX.out.size)); have A8 := Lib.hid ((below_dn BX.out _).trans (hb8.mono BX.out.size)); have M8 := Lib.hid (show w8.heap[w.heap.size]? = _ from (hb8.block _ (row_lt MX.out)).trans MX.out); have N8 := Lib.hid (show w8.heap[wr.heap.size]? = _ from (hb8.block _ (row_lt XN.out)).trans XN.out); clear hb8; obtain ⟨yv0, yv1⟩ := HWV.out _ A8.out; obtain ⟨⟨yp0, yp1, yp2, yp3, yp4, yp5, yp6⟩, ⟨yq0, yq1, yq2, yq3, yq4, yq5, yq6⟩, ⟨yr0, yr1, yr2, yr3, yr4, yr5, yr6⟩⟩ := HEV.out _ A8.out; simp only [Nat.zero_mul, Nat.add_zero, Nat.one_mul] at yp0 yp1 yp2 yp3 yp4 yp5 yp6 yq0 yq1 yq2 yq3 yq4 yq5 yq6 yr0 yr1 yr2 yr3 yr4 yr5 yr6; obtain ⟨yc0, yc1⟩ := geCells M8.out; replace yc0 : World.cell? _ _ = some (.int .i64 2) := yc0; replace yc1 : World.cell? _ _ = some (.slice (some ⟨b, off, none⟩) 3 vc) := yc1; obtain ⟨m0, m1, m2, m3, m4, m5, m6⟩ := accCells (x := ⟨1, 5, 0, 0, 0, 3, 0⟩) N8.out; simp only at m0 m1 m2 m3 m4 m5 m6)
      go_loopw [141] (fun jj wx => jj = .int .i64 0 ∧ Below w2.heap.size w2 wx) (fun _ _ => 0)
      case atStart => exact ⟨rfl, B8.out⟩
      case round =>
        obtain ⟨rfl, hbl⟩ := hrel
        have HBI := Lib.hid hbl
        clear hbl
        go_wp2_with fail
        exact ⟨⟨1, by omega, rfl, HBI.out⟩, by simp [intOf]⟩
    · have hbx := box_below wr (.cells #[.int .i64 2, .int .i64 7, .int .i64 1, .int .i64 0, .int .i64 0, .int .i64 0, .int .i64 0] 52)
      have BX := Lib.hid (HBL.out.trans (hbx.mono HBL.out.size))
      have RX := Lib.hid (HRL.out.trans (hbx.mono HRL.out.size))
      have MX := Lib.hid ((hbx.block _ (row_lt MR.out)).trans MR.out)
      have XN := Lib.hid (heap_alloc_new wr (.cells #[.int .i64 2, .int .i64 7, .int .i64 1, .int .i64 0, .int .i64 0, .int .i64 0, .int .i64 0] 52))
      obtain ⟨n0, n1, n2, n3, n4, n5, n6⟩ := accCells (x := ⟨2, 7, 1, 0, 0, 0, 0⟩) XN.out
      simp only at n0 n1 n2 n3 n4 n5 n6
      clear hbx
      obtain ⟨xv0, xv1⟩ := HWV.out _ BX.out
      obtain ⟨⟨xp0, xp1, xp2, xp3, xp4, xp5, xp6⟩, ⟨xq0, xq1, xq2, xq3, xq4, xq5, xq6⟩, ⟨xr0, xr1, xr2, xr3, xr4, xr5, xr6⟩⟩ := HEV.out _ BX.out
      simp only [Nat.zero_mul, Nat.add_zero, Nat.one_mul] at xp0 xp1 xp2 xp3 xp4 xp5 xp6 xq0 xq1 xq2 xq3 xq4 xq5 xq6 xr0 xr1 xr2 xr3 xr4 xr5 xr6
      obtain ⟨xc0, xc1⟩ := geCells MX.out
      replace xc0 : World.cell? _ _ = some (.int .i64 2) := xc0
      replace xc1 : World.cell? _ _ = some (.slice (some ⟨b, off, none⟩) 3 vc) := xc1
      have hv2 : ¬ vc = 2 := by omega
      go_wp2_with fail
      go_quiet (fail)
      go_wp2_with (go_at_call 61; rw [HF.out]; refine (HHA.out _ (below_dn BX.out _)).mono ?_; rintro e w8 ⟨rfl, hb8⟩; have B8 := Lib.hid ((below_dn RX.out _).trans (hb8.mono RX.out.size)); have A8 := Lib.hid ((below_dn BX.out _).trans (hb8.mono BX.out.size)); have M8 := Lib.hid (show w8.heap[w.heap.size]? = _ from (hb8.block _ (row_lt MX.out)).trans MX.out); have N8 := Lib.hid (show w8.heap[wr.heap.size]? = _ from (hb8.block _ (row_lt XN.out)).trans XN.out); clear hb8; obtain ⟨yv0, yv1⟩ := HWV.out _ A8.out; obtain ⟨⟨yp0, yp1, yp2, yp3, yp4, yp5, yp6⟩, ⟨yq0, yq1, yq2, yq3, yq4, yq5, yq6⟩, ⟨yr0, yr1, yr2, yr3, yr4, yr5, yr6⟩⟩ := HEV.out _ A8.out; simp only [Nat.zero_mul, Nat.add_zero, Nat.one_mul] at yp0 yp1 yp2 yp3 yp4 yp5 yp6 yq0 yq1 yq2 yq3 yq4 yq5 yq6 yr0 yr1 yr2 yr3 yr4 yr5 yr6; obtain ⟨yc0, yc1⟩ := geCells M8.out; replace yc0 : World.cell? _ _ = some (.int .i64 2) := yc0; replace yc1 : World.cell? _ _ = some (.slice (some ⟨b, off, none⟩) 3 vc) := yc1; obtain ⟨m0, m1, m2, m3, m4, m5, m6⟩ := accCells (x := ⟨2, 7, 1, 0, 0, 0, 0⟩) N8.out; simp only at m0 m1 m2 m3 m4 m5 m6)
      go_loopw [141] (fun jj wx => ∃ j : Nat, j ≤ 1 ∧ jj = .int .i64 (j : Int) ∧ Below w8.heap.size w8 wx) (fun jj _ => 1 - (intOf jj).toNat)
      case atStart => exact ⟨0, by omega, rfl, Below.refl _ _⟩
      case round =>
        obtain ⟨j, hj, rfl, hbl⟩ := hrel
        rename World => wy
        have HBI := Lib.hid (B8.out.trans (hbl.mono B8.out.size))
        rcases (by omega : j = 0 ∨ j = 1) with rfl | rfl
        · have HB8 := Lib.hid (A8.out.trans (hbl.mono A8.out.size))
          have N9 := Lib.hid ((hbl.block _ (row_lt N8.out)).trans N8.out)
          obtain ⟨-, -, s2, -⟩ := accCells (x := ⟨2, 7, 1, 0, 0, 0, 0⟩) N9.out
          simp only at s2
          have s2' := fun o => (World.cell?_alloc_lt wy o _ (row_lt N9.out)).trans s2
          obtain ⟨-, -, t0, t1, t2, t3, t4, t5, t6⟩ := HEV.out _ HB8.out
          simp only at t0 t1 t2 t3 t4 t5 t6
          rw [show off + 2 * 7 = off + 14 by omega] at t0 t1 t2 t3 t4 t5 t6
          obtain ⟨n0, n1, n2, n3, n4, n5, n6⟩ := accCells (x := ⟨3, 6, 0, 0, 0, 3, 0⟩) (heap_alloc_new wy (.cells #[.int .i64 3, .int .i64 6, .int .i64 0, .int .i64 0, .int .i64 0, .int .i64 3, .int .i64 0] 52))
          simp only at n0 n1 n2 n3 n4 n5 n6
          have BY := Lib.hid (hbl.trans ((box_below wy (.cells #[.int .i64 3, .int .i64 6, .int .i64 0, .int .i64 0, .int .i64 0, .int .i64 3, .int .i64 0] 52)).mono hbl.size))
          clear hbl
          go_wp2_with fail
          exact ⟨⟨1, by omega, rfl, BY.out⟩, by simp [intOf]⟩
        · clear hbl
          go_wp2_with fail
          exact ⟨⟨2, by omega, rfl, HBI.out⟩, by simp [intOf]⟩
    · go_wp2_with fail
      go_quiet (fail)
      go_wp2_with fail
      go_ret
      exact ⟨by first | rfl | simp, below_dn HBL.out _⟩

end Go.Proofs.Ytfdmneceecaocaa.Di
