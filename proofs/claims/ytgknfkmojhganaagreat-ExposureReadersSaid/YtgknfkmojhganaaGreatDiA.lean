import Derived.Test.YtgknfkmojhganaaGreatDiMem
namespace Go.Proofs.YtgknfkmojhganaaGreat.Di
open Go.RowKit
open Go.Proofs.YtgknfkmojhganaaGreat.Tp
set_option linter.unusedVariables false

set_option maxRecDepth 100000 in
set_option maxHeartbeats 400000 in
theorem exists_any (d : Dy) (v : Vd) (p : Nat) (w : World) :
    Calls Tryz.prog 83 #[.agg (gd d v), .int .i64 (p : Int)] w fun e w' => e = .returned (.bool (decide (p < d.k.length))) ∧ Below w.heap.size w w' := by
  have HB0 := Lib.hid (box_below w (.cells (gd d v) 25))
  have R0 := Lib.hid (heap_alloc_new w (.cells (gd d v) 25))
  obtain ⟨g0, g1⟩ := gdCells R0.out
  have p0 : (0 : Int) ≤ (p : Int) := by omega
  go_enter Tryz.func83, Tryz.ntmps83
  go_wp2_with fail
  go_ret
  exact ⟨by first | rfl | simp, HB0.out⟩

/-- Is p a group? -/
def gB (d : Dy) (p : Nat) : Bool := decide (p < d.k.length) && kd d p == 2
set_option maxRecDepth 100000 in
set_option maxHeartbeats 400000 in
theorem group_any (B : Nat) (d : Dy) (v : Vd) (p : Nat) (w : World) (h : DL w B d v) :
    Calls Tryz.prog 84 #[.agg (gd d v), .int .i64 (p : Int)] w fun e w' => e = .returned (.bool (gB d p)) ∧ Below w.heap.size w w' := by
  have HB0 := Lib.hid (box_below w (.cells (gd d v) 25))
  have R0 := Lib.hid (heap_alloc_new w (.cells (gd d v) 25))
  have HEX := Lib.hid (fun w' => exists_any d v p w')
  have HD := Lib.hid h
  simp only [gd] at HEX
  obtain ⟨g0, g1⟩ := gdCells R0.out
  have p0 : (0 : Int) ≤ (p : Int) := by omega
  by_cases hp : p < d.k.length
  · rw [decide_eq_true hp] at HEX
    obtain ⟨b, off, hA, -, lb, y0⟩ := (h.below HB0.out).r1.int hp
    have hK : d.k.getD p 0 = kd d p := rfl
    rw [hK] at y0
    have hgb : gB d p = (((kd d p : Nat) : Int) == 2) := by
      unfold gB
      rw [decide_eq_true hp, Bool.true_and]
      by_cases e : kd d p = 2
      · rw [e]; rfl
      · rw [beq_eq_false_iff_ne.2 e, beq_eq_false_iff_ne.2 (by omega)]
    have p1 : (p : Int) < (d.k.length : Int) := by omega
    rw [hA] at g0 HEX
    have HA := Lib.hid hA
    have HGB := Lib.hid hgb
    have Y0 := Lib.hid y0
    clear h hK hA hgb y0
    generalize kd d p = k at *
    go_enter Tryz.func84, Tryz.ntmps84
    go_wp2_with (go_at_call 83; (with_reducible refine (HEX.out _).mono ?_); rintro e w1 ⟨rfl, hb1⟩; have R1 := Lib.hid ((hb1.block _ (row_lt R0.out)).trans R0.out); obtain ⟨k0, k1⟩ := gdCells R1.out; rw [HA.out] at k0; have y0 := (hb1.cell (p := ⟨b, off + p, none⟩) lb).trans Y0.out; have HB1 := Lib.hid (HB0.out.trans (hb1.mono HB0.out.size)); clear hb1 g0 g1)
    go_ret
    exact ⟨by rw [HGB.out]; first | rfl | simp, HB1.out⟩
  · rw [decide_eq_false hp] at HEX
    have hgb : gB d p = false := by
      unfold gB
      rw [decide_eq_false hp, Bool.false_and]
    have HGB := Lib.hid hgb
    clear hgb h
    go_enter Tryz.func84, Tryz.ntmps84
    go_wp2_with (go_at_call 83; (with_reducible refine (HEX.out _).mono ?_); rintro e w1 ⟨rfl, hb1⟩; have HB1 := Lib.hid (HB0.out.trans (hb1.mono HB0.out.size)); clear hb1 g0 g1)
    go_ret
    exact ⟨by rw [HGB.out]; first | rfl | simp, HB1.out⟩

set_option maxRecDepth 100000 in
set_option maxHeartbeats 400000 in
theorem in_any (n p : Nat) (w : World) : Calls Tryz.prog 78 #[.int .i64 (p : Int), .int .i64 0, .int .i64 ((n : Int) - 1)] w fun e w' => e = .returned (.bool (decide (p < n))) ∧ w' = w := by
  have p0 : (0 : Int) ≤ (p : Int) := by omega
  have hd : decide ((p : Int) ≤ (n : Int) - 1) = decide (p < n) := by
    by_cases h : p < n
    · rw [decide_eq_true h, decide_eq_true (show (p : Int) ≤ (n : Int) - 1 by omega)]
    · rw [decide_eq_false h, decide_eq_false (show ¬ (p : Int) ≤ (n : Int) - 1 by omega)]
  have HD := Lib.hid hd
  clear hd
  go_enter Tryz.func78, Tryz.ntmps78
  go_wp2_with fail
  go_ret
  exact ⟨by rw [← HD.out]; first | rfl | simp, rfl⟩

set_option maxRecDepth 100000 in
set_option maxHeartbeats 400000 in
theorem rexists_any (d : Dy) (v : Vd) (p : Nat) (w : World) (hn : d.k.length ≤ 1000) :
    Calls Tryz.prog 57 #[.agg (gd d v), .int .i64 (p : Int)] w fun e w' => e = .returned (.bool (decide (p < d.k.length))) ∧ Below w.heap.size w w' := by
  have HB0 := Lib.hid (box_below w (.cells (gd d v) 25))
  have R0 := Lib.hid (heap_alloc_new w (.cells (gd d v) 25))
  have HIN := Lib.hid (fun w' => in_any d.k.length p w')
  obtain ⟨g0, g1⟩ := gdCells R0.out
  have hwr : IntKind.i64.wrap ((d.k.length : Int) - 1) = (d.k.length : Int) - 1 := IntWalk.i64_in _ (by omega)
  have hbr : Below w.heap.size w w := Below.refl _ _
  go_enter Tryz.func57, Tryz.ntmps57
  go_wp2_with (go_at_call 78; (with_reducible refine (HIN.out _).mono ?_); rintro e w1 ⟨rfl, rfl⟩)
  go_ret
  exact ⟨by first | rfl | simp, HB0.out⟩

set_option maxRecDepth 100000 in
set_option maxHeartbeats 400000 in
theorem rgroup_any (B : Nat) (d : Dy) (v : Vd) (p : Nat) (w : World) (h : DL w B d v) (hn : d.k.length ≤ 1000) :
    Calls Tryz.prog 79 #[.agg (gd d v), .int .i64 (p : Int)] w fun e w' => e = .returned (.bool (gB d p)) ∧ Below w.heap.size w w' := by
  have HB0 := Lib.hid (box_below w (.cells (gd d v) 25))
  have R0 := Lib.hid (heap_alloc_new w (.cells (gd d v) 25))
  have HEX := Lib.hid (fun w' => rexists_any d v p w' hn)
  have HD := Lib.hid h
  simp only [gd] at HEX
  obtain ⟨g0, g1⟩ := gdCells R0.out
  have p0 : (0 : Int) ≤ (p : Int) := by omega
  by_cases hp : p < d.k.length
  · rw [decide_eq_true hp] at HEX
    obtain ⟨b, off, hA, -, lb, y0⟩ := (h.below HB0.out).r1.int hp
    have hK : d.k.getD p 0 = kd d p := rfl
    rw [hK] at y0
    have hgb : gB d p = (((kd d p : Nat) : Int) == 2) := by
      unfold gB
      rw [decide_eq_true hp, Bool.true_and]
      by_cases e : kd d p = 2
      · rw [e]; rfl
      · rw [beq_eq_false_iff_ne.2 e, beq_eq_false_iff_ne.2 (by omega)]
    have p1 : (p : Int) < (d.k.length : Int) := by omega
    rw [hA] at g0 HEX
    have HA := Lib.hid hA
    have HGB := Lib.hid hgb
    have Y0 := Lib.hid y0
    clear h hK hA hgb y0
    generalize kd d p = k at *
    go_enter Tryz.func79, Tryz.ntmps79
    go_wp2_with (go_at_call 57; (with_reducible refine (HEX.out _).mono ?_); rintro e w1 ⟨rfl, hb1⟩; have R1 := Lib.hid ((hb1.block _ (row_lt R0.out)).trans R0.out); obtain ⟨k0, k1⟩ := gdCells R1.out; rw [HA.out] at k0; have y0 := (hb1.cell (p := ⟨b, off + p, none⟩) lb).trans Y0.out; have HB1 := Lib.hid (HB0.out.trans (hb1.mono HB0.out.size)); clear hb1 g0 g1)
    go_ret
    exact ⟨by rw [HGB.out]; first | rfl | simp, HB1.out⟩
  · rw [decide_eq_false hp] at HEX
    have hgb : gB d p = false := by
      unfold gB
      rw [decide_eq_false hp, Bool.false_and]
    have HGB := Lib.hid hgb
    clear hgb h
    go_enter Tryz.func79, Tryz.ntmps79
    go_wp2_with (go_at_call 57; (with_reducible refine (HEX.out _).mono ?_); rintro e w1 ⟨rfl, hb1⟩; have HB1 := Lib.hid (HB0.out.trans (hb1.mono HB0.out.size)); clear hb1 g0 g1)
    go_ret
    exact ⟨by rw [HGB.out]; first | rfl | simp, HB1.out⟩

/-- Is p a person or a service? -/
def rB (d : Dy) (p : Nat) : Bool := decide (p < d.k.length) && kd d p != 2
set_option maxRecDepth 100000 in
set_option maxHeartbeats 400000 in
theorem reader_any (B : Nat) (d : Dy) (v : Vd) (p : Nat) (w : World) (h : DL w B d v) (hn : d.k.length ≤ 1000) :
    Calls Tryz.prog 33 #[.agg (gd d v), .int .i64 (p : Int)] w fun e w' => e = .returned (.bool (rB d p)) ∧ Below w.heap.size w w' := by
  have HB0 := Lib.hid (box_below w (.cells (gd d v) 25))
  have R0 := Lib.hid (heap_alloc_new w (.cells (gd d v) 25))
  have HEX := Lib.hid (fun w' => rexists_any d v p w' hn)
  have HD := Lib.hid h
  simp only [gd] at HEX
  obtain ⟨g0, g1⟩ := gdCells R0.out
  have p0 : (0 : Int) ≤ (p : Int) := by omega
  by_cases hp : p < d.k.length
  · rw [decide_eq_true hp] at HEX
    obtain ⟨b, off, hA, -, lb, y0⟩ := (h.below HB0.out).r1.int hp
    have hK : d.k.getD p 0 = kd d p := rfl
    rw [hK] at y0
    have hgb : rB d p = (((kd d p : Nat) : Int) != 2) := by
      unfold rB
      rw [decide_eq_true hp, Bool.true_and]
      by_cases e : kd d p = 2
      · rw [e]; rfl
      · rw [bne, bne, beq_eq_false_iff_ne.2 e, beq_eq_false_iff_ne.2 (by omega)]
    have p1 : (p : Int) < (d.k.length : Int) := by omega
    rw [hA] at g0 HEX
    have HA := Lib.hid hA
    have HGB := Lib.hid hgb
    have Y0 := Lib.hid y0
    clear h hK hA hgb y0
    generalize kd d p = k at *
    go_enter Tryz.func33, Tryz.ntmps33
    go_wp2_with (go_at_call 57; (with_reducible refine (HEX.out _).mono ?_); rintro e w1 ⟨rfl, hb1⟩; have R1 := Lib.hid ((hb1.block _ (row_lt R0.out)).trans R0.out); obtain ⟨k0, k1⟩ := gdCells R1.out; rw [HA.out] at k0; have y0 := (hb1.cell (p := ⟨b, off + p, none⟩) lb).trans Y0.out; have HB1 := Lib.hid (HB0.out.trans (hb1.mono HB0.out.size)); clear hb1 g0 g1)
    go_ret
    exact ⟨by rw [HGB.out]; first | rfl | simp, HB1.out⟩
  · rw [decide_eq_false hp] at HEX
    have hgb : rB d p = false := by
      unfold rB
      rw [decide_eq_false hp, Bool.false_and]
    have HGB := Lib.hid hgb
    clear hgb h
    go_enter Tryz.func33, Tryz.ntmps33
    go_wp2_with (go_at_call 57; (with_reducible refine (HEX.out _).mono ?_); rintro e w1 ⟨rfl, hb1⟩; have HB1 := Lib.hid (HB0.out.trans (hb1.mono HB0.out.size)); clear hb1 g0 g1)
    go_ret
    exact ⟨by rw [HGB.out]; first | rfl | simp, HB1.out⟩


end Go.Proofs.YtgknfkmojhganaaGreat.Di
