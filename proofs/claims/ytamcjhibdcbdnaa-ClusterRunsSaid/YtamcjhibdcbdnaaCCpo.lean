import Derived.Test.YtamcjhibdcbdnaaCCln
namespace Go.Proofs.Ytamcjhibdcbdnaa.Cl
open Go.RowKit
open Go.Proofs.Ytamcjhibdcbdnaa.Tp
set_option linter.unusedVariables false

theorem set123 {W : World} {g : Nat} {c : Cl} {v : Vl} {A1 A2 A3 : Option Addr} {k1 k2 k3 : Nat} (h : W.heap[g]? = some (.cells (cv c v) 25 (0, 0))) :
    ((W.setCell ⟨g, 1, none⟩ (.slice A1 c.s.length k1)).setCell ⟨g, 2, none⟩ (.slice A2 c.r.length k2)).setCell ⟨g, 3, none⟩ (.slice A3 c.p.length k3) = W.setRow g (cv c ⟨A1, k1, A2, k2, A3, k3⟩) := by
  have h0 := setRow_heap W g (cv c v) ((cv c v).setIfInBounds 1 (.slice A1 c.s.length k1)) 25 (0, 0) h
  rw [setCell_eq_setRow W g 1 (cv c v) 25 (0, 0) _ h, setCell_eq_setRow _ g 2 _ 25 (0, 0) _ h0, setRow_setRow]
  have h1 := setRow_heap W g (cv c v) (((cv c v).setIfInBounds 1 (.slice A1 c.s.length k1)).setIfInBounds 2 (.slice A2 c.r.length k2)) 25 (0, 0) h
  rw [setCell_eq_setRow _ g 3 _ 25 (0, 0) _ h1, setRow_setRow]
  rfl
theorem Own.base {w : World} {B B' : Nat} {c : Cl} {v : Vl} (h : Own w B c v) (hb : B' ≤ B) : Own w B' c v := ⟨own_base h.o1 hb, own_base h.o2 hb, own_base h.o3 hb, h.ne⟩

set_option maxRecDepth 100000 in
set_option maxHeartbeats 4000000 in
theorem copyOf_any (m B : Nat) (c : Cl) (v : Vl) (w : World) (h : CL w B c v) (hok : Ok m c) (hm : m ≤ 100) :
    Calls Try.prog 65 #[.agg (cv c v)] w fun e w' => ∃ v', e = .returned (.agg (cv c v')) ∧ Own w' w.heap.size c v' ∧ Below w.heap.size w w' := by
  obtain ⟨s1, s2, r1, r2, p2, sb, rb, pb⟩ := hok
  clear sb rb pb
  have hsn : c.s.length ≤ 1000 := by omega
  have hrn : c.r.length ≤ 1000 := by omega
  have hpn : c.p.length ≤ 1000 := by omega
  have hbz := (box_below w (.cells (cv c v) 25)).trans ((box_below (w.alloc (.cells (cv c v) 25)) (.cells zC 25)).mono (by simp))
  have hrow : ((w.alloc (.cells (cv c v) 25)).alloc (.cells zC 25)).heap[w.heap.size]? = some (.cells (cv c v) 25 (0, 0)) := (heap_alloc_old _ _ (row_lt (heap_alloc_new w (.cells (cv c v) 25)))).trans (heap_alloc_new w (.cells (cv c v) 25))
  have hzr : ((w.alloc (.cells (cv c v) 25)).alloc (.cells zC 25)).heap[w.heap.size + 1]? = some (.cells zC 25 (0, 0)) := by
    have := heap_alloc_new (w.alloc (.cells (cv c v) 25)) (.cells zC 25)
    simpa using this
  have HCL := Lib.hid (h.below hbz)
  have HZ := Lib.hid hbz
  have HROW := Lib.hid hrow
  have HZR := Lib.hid hzr
  clear h hbz hrow hzr s1 s2 r1 r2 p2
  go_enter Try.func65, Try.ntmps65
  go_wp2_with fail
  unfold zC at HCL HZ HROW HZR
  generalize (w.alloc (.cells (cv c v) 25)).alloc (.cells #[.bool false, .slice none 0 0, .slice none 0 0, .slice none 0 0] 25) = W0 at *
  obtain ⟨c0, c1, c2, c3⟩ := cvCells _ _ _ _ _ _ HROW.out
  have d1 : W0.drew.cell? ⟨w.heap.size, 1, none⟩ = some (.slice v.A1 c.s.length v.c1) := c1
  have d2 : W0.drew.cell? ⟨w.heap.size, 2, none⟩ = some (.slice v.A2 c.r.length v.c2) := c2
  have d3 : W0.drew.cell? ⟨w.heap.size, 3, none⟩ = some (.slice v.A3 c.p.length v.c3) := c3
  have hbr : Below w.heap.size W0 W0 := Below.refl _ _
  have hbd : Below w.heap.size W0 W0.drew := hbr.drew
  have lz : w.heap.size < W0.heap.size := row_lt HROW.out
  have lz1 : w.heap.size + 1 < W0.heap.size := row_lt HZR.out
  go_region_law (first
      | (go_simp; go_at_call 80; (with_reducible refine (clone3_any c.s B c.s.length v.c1 v.A1 _ ?_ hsn).mono ?_); (first | exact HCL.out.r1 | exact HCL.out.drew.r1); rintro e w1 ⟨A1, k1, rfl, ho1, hb1⟩; have hB1 : Below W0.heap.size W0 w1 := (by first | exact hb1 | exact (Below.refl _ W0).drew.trans hb1); have hbw1 : Below w.heap.size W0 w1 := hB1.mono (Nat.le_of_lt lz); obtain ⟨x0, x1, x2, x3⟩ := cvCells _ _ _ _ _ _ ((hB1.block w.heap.size lz).trans HROW.out); have O1 := Lib.hid ho1; have HB1 := Lib.hid hB1; clear ho1 hb1 hB1)
      | (go_simp; go_at_call 81; (with_reducible refine (clone60_any c.r B c.r.length v.c2 v.A2 _ ?_ hrn).mono ?_); (first | exact (HCL.out.below HB1.out).r2); rintro e w2 ⟨A2, k2, rfl, ho2, hb2⟩; have hB2 : Below W0.heap.size W0 w2 := HB1.out.trans (hb2.mono HB1.out.size); have hbw2 : Below w.heap.size W0 w2 := hB2.mono (Nat.le_of_lt lz); obtain ⟨u0, u1, u2, u3⟩ := cvCells _ _ _ _ _ _ ((hB2.block w.heap.size lz).trans HROW.out); have O2 := Lib.hid ho2; have P1 := Lib.hid (own_below O1.out hb2); have HB2 := Lib.hid hB2; clear ho2 hb2 hB2)
      | (go_simp; go_at_call 80; (with_reducible refine (clone3_any c.p B c.p.length v.c3 v.A3 _ ?_ hpn).mono ?_); (first | exact (HCL.out.below HB2.out).r3); rintro e w3 ⟨A3, k3, rfl, ho3, hb3⟩; have hB3 : Below W0.heap.size W0 w3 := HB2.out.trans (hb3.mono HB2.out.size); have hbw3 : Below w.heap.size W0 w3 := hB3.mono (Nat.le_of_lt lz); have hR3 := (hB3.block w.heap.size lz).trans HROW.out; obtain ⟨y0, y1, y2, y3⟩ := cvCells _ _ _ _ _ _ hR3; have yf : ∀ j, w3.frozen? ⟨w.heap.size, j, none⟩ = false := (fun j => frozen_of_row _ _ _ _ _ hR3); have R3 := Lib.hid hR3; have O3 := Lib.hid ho3; have P2 := Lib.hid (own_below O2.out hb3); have Q1 := Lib.hid (own_below P1.out hb3); have HB3 := Lib.hid hB3; clear ho3 hb3 hB3 hR3)
  )
  all_goals
    rw [set123 R3.out]
    have hown : Own w3 (w.heap.size + 2) c ⟨A1, k1, A2, k2, A3, k3⟩ := ⟨own_base Q1.out (show w.heap.size + 2 ≤ W0.heap.size from lz1), own_base P2.out (show w.heap.size + 2 ≤ w1.heap.size from Nat.le_trans lz1 HB1.out.size), own_base O3.out (show w.heap.size + 2 ≤ w2.heap.size from Nat.le_trans lz1 HB2.out.size), fun g h1 h2 => by
      have q1 : g < w2.heap.size := (P1.out.lt g h1).2
      have q2 : w2.heap.size ≤ g := (O3.out.lt g h2).1
      omega⟩
    have HO5 := Lib.hid (hown.set (show w.heap.size < w.heap.size + 2 by omega) (cv c ⟨A1, k1, A2, k2, A3, k3⟩))
    have hz5 : (w3.setRow w.heap.size (cv c ⟨A1, k1, A2, k2, A3, k3⟩)).heap[w.heap.size + 1]? = some (.cells zC 25 (0, 0)) := (setRow_other _ _ _ _ (by omega)).trans ((HB3.out.block (w.heap.size + 1) lz1).trans HZR.out)
    have HZ5 := Lib.hid hz5
    have hr5 := setRow_heap w3 w.heap.size _ (cv c ⟨A1, k1, A2, k2, A3, k3⟩) 25 (0, 0) R3.out
    have HB5 := Lib.hid (below_setRow (HZ.out.trans hbw3) (Nat.le_refl _) (cv c ⟨A1, k1, A2, k2, A3, k3⟩))
    clear c0 c1 c2 c3 d1 d2 d3 x0 x1 x2 x3 u0 u1 u2 u3 y0 y1 y2 y3 yf hown hbw1 hbw2 hbw3 hbr hbd
    obtain ⟨c0, c1, c2, c3⟩ := cvCells _ _ _ _ _ _ hr5
    obtain ⟨z0, z1, z2, z3, z4, z5, z6, z7⟩ := zCells hz5
    clear hz5 hr5
    generalize w3.setRow w.heap.size (cv c ⟨A1, k1, A2, k2, A3, k3⟩) = W5 at *
    go_wp2_with fail
    rw [set4row HZ5.out rfl]
    refine bodyPost_ret (v := .agg (cv c ⟨A1, k1, A2, k2, A3, k3⟩)) (results_cell_row rfl _ _ (w.heap.size + 1) 25 (cv c ⟨A1, k1, A2, k2, A3, k3⟩) (0, 0) _ rfl (setRow_heap _ _ _ _ _ _ HZ5.out) Try.underlying25 rfl (info25 _ _)) rfl ⟨⟨A1, k1, A2, k2, A3, k3⟩, rfl, ?_, ?_⟩
    · exact (HO5.out.set (show w.heap.size + 1 < w.heap.size + 2 by omega) _).base (by omega)
    · exact below_setRow HB5.out (Nat.le_succ _) _

end Go.Proofs.Ytamcjhibdcbdnaa.Cl
