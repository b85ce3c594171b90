import Derived.Test.YtdhofngildjifaaDiV
namespace Go.Proofs.Ytdhofngildjifaa.Di
open Go.RowKit
open Go.Proofs.Ytdhofngildjifaa.Tp
set_option linter.unusedVariables false

theorem tst (x : Nat) : (((x : Int) - 1) != -1) = decide (0 < x) := by
  by_cases h : 0 < x
  · rw [bne, beq_eq_false_iff_ne.2 (show (x : Int) - 1 ≠ -1 by omega), decide_eq_true h]; rfl
  · obtain rfl : x = 0 := by omega
    rfl
/-- Is q a person or a service that is in u? -/
noncomputable def memB (d : Dy) (t u q : Nat) : Bool := gB d u && (!gB d q && upB d t q u)

set_option maxRecDepth 100000 in
set_option maxHeartbeats 1000000 in
theorem mq_call (B : Nat) (d : Dy) (v : Vd) (q u t gd' gm gg n c : Nat) (A : Option Addr) (w : World) (h : DL w B d v) (hok : Ok d)
    (hd : w.heap[gd']? = some (.cells (gd d v) 25 (0, 0))) (hm : w.heap[gm]? = some (.cells #[.slice A d.k.length d.k.length] 61 (0, 0))) (hg : w.heap[gg]? = some (.cells #[.int .i64 (u : Int)] 3 (0, 0))) (hr : MM w 0 d.k.length A (dm d t)) (hq : q < d.k.length) (hu : u < d.k.length) (hgu : gB d u = true) :
    Calls Try.prog 52 (#[.int .i64 (q : Int)] ++ #[.pointer (some ⟨gd', 0, none⟩), .pointer (some ⟨gm, 0, none⟩), .pointer (some ⟨gg, 0, none⟩)]) w fun e w' => e = .returned (.bool (memB d t u q)) ∧ Below w.heap.size w w' := by
  have hn := hok.n
  have hgr := fun w' (hw : Below w.heap.size w w') => group_any B d v q w' (h.below hw)
  have hup := fun w' (hw : Below w.heap.size w w') => upward_any d.k.length q d.k.length A (dm d t) w' ((hr.below hw).base (Nat.zero_le _)) hq hn
  simp only [gd] at hgr hup
  have HGR := Lib.hid hgr
  have HUP := Lib.hid hup
  have HX := Lib.hid (fun w' (hw : Below w.heap.size w w') => (show w'.cell? ⟨gd', 0, none⟩ = some (.slice v.A1 d.k.length v.c1) ∧ w'.cell? ⟨gd', 1, none⟩ = some (.slice v.A2 d.e.length v.c2) ∧ w'.cell? ⟨gm, 0, none⟩ = some (.slice A d.k.length d.k.length) ∧ w'.cell? ⟨gg, 0, none⟩ = some (.int .i64 (u : Int)) ∧ Below w.heap.size w w' from ⟨(gdCells ((hw.block _ (row_lt hd)).trans hd)).1, (gdCells ((hw.block _ (row_lt hd)).trans hd)).2, by rw [cell_of_row _ _ _ _ _ _ ((hw.block _ (row_lt hm)).trans hm)]; rfl, by rw [cell_of_row _ _ _ _ _ _ ((hw.block _ (row_lt hg)).trans hg)]; rfl, hw⟩))
  obtain ⟨x0, x1, x2, x3, hbr⟩ := HX.out w (Below.refl _ _)
  have hbd : Below w.heap.size w w.drew := (Below.refl w.heap.size w).drew
  have u0 : (0 : Int) ≤ (u : Int) := by omega
  have u1 : (u : Int) < (d.k.length : Int) := by omega
  clear hgr hup h hok hd hm hg hr
  show Calls Try.prog 52 #[.int .i64 (q : Int), .pointer (some ⟨gd', 0, none⟩), .pointer (some ⟨gm, 0, none⟩), .pointer (some ⟨gg, 0, none⟩)] w _
  cases hb : gB d q with
  | true =>
    rw [hb] at HGR
    have HV := Lib.hid (show memB d t u q = false by unfold memB; rw [hb, hgu]; rfl)
    clear hb hgu
    go_enter Try.func52, Try.ntmps52
    go_wp2_with fail
    first
      | go_region_with (go_at_call 44; (with_reducible refine (HGR.out _ hbd).mono ?_); rintro e w1 ⟨rfl, hb10⟩; have hb1 : Below w.heap.size w w1 := hbd.trans (hb10.mono hbd.size); have HB1 := Lib.hid hb1; clear hb10 hb1)
      | fail "with"
    all_goals
      go_wp2_with fail
      go_ret
      exact ⟨by rw [HV.out]; first | rfl | simp, HB1.out⟩
  | false =>
    rw [hb] at HGR
    have HV := Lib.hid (show memB d t u q = upB d t q u by unfold memB; rw [hb, hgu]; rfl)
    clear hb hgu
    go_enter Try.func52, Try.ntmps52
    go_wp2_with fail
    go_region_with (first
      | (go_at_call 44; (with_reducible refine (HGR.out _ hbd).mono ?_); rintro e w1 ⟨rfl, hb10⟩; have hb1 : Below w.heap.size w w1 := hbd.trans (hb10.mono hbd.size); have HB1 := Lib.hid hb1; obtain ⟨z0, z1, z2, z3, -⟩ := HX.out _ hb1; clear hb10 hb1)
      | (go_at_call 53; (with_reducible refine (HUP.out _ HB1.out).mono ?_); rintro e w4 ⟨H, th, L, rfl, hbf, hsh, hrow, hb40⟩; have HB4 := Lib.hid (HB1.out.trans (hb40.mono HB1.out.size)); obtain ⟨v0, v1, v2, v3, -⟩ := HX.out _ HB4.out; obtain ⟨b, off, e6, -, -, y0⟩ := hrow.thr hu; cases e6; rw [Nat.zero_add] at y0; have HDN := Lib.hid (up_done hbf hsh hq hu); clear hb40 hbf hsh hrow))
    all_goals
      go_wp2_with fail
      go_ret
      refine ⟨?_, HB4.out⟩
      rw [HV.out, ← HDN.out, ← tst]
      first | rfl | simp

end Go.Proofs.Ytdhofngildjifaa.Di
