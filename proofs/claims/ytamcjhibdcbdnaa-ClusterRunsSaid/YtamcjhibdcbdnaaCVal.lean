import Derived.Test.YtamcjhibdcbdnaaCMem
import Derived.WalkKit
import Derived.Lib.Hide
import Derived.WalkSpells
import Derived.WalkLawsBesides
import Derived.Deep.QuietTactic
import Derived.BigQuiet
import Derived.Laws.Rows
namespace Go.Proofs.Ytamcjhibdcbdnaa.Cl
open Go.RowKit
open Go.Proofs.Ytamcjhibdcbdnaa.Tp
set_option linter.unusedVariables false

theorem in_yes (x lo hi : Int) (w : World) (h1 : lo ≤ x) (h2 : x ≤ hi) : Calls Try.prog 55 #[.int .i64 x, .int .i64 lo, .int .i64 hi] w fun e w' => e = .returned (.bool true) ∧ w = w' := by
  have d1 : decide (lo ≤ x) = true := decide_eq_true h1
  have d2 : decide (x ≤ hi) = true := decide_eq_true h2
  go_enter Try.func55, Try.ntmps55
  go_wp2
  go_ret
  exact ⟨by first | rfl | simp, rfl⟩
theorem in_no (x lo hi : Int) (w : World) (h1 : lo ≤ x) (h2 : hi < x) : Calls Try.prog 55 #[.int .i64 x, .int .i64 lo, .int .i64 hi] w fun e w' => e = .returned (.bool false) ∧ w = w' := by
  have d1 : decide (lo ≤ x) = true := decide_eq_true h1
  have d2 : decide (x ≤ hi) = false := decide_eq_false (by omega)
  go_enter Try.func55, Try.ntmps55
  go_wp2
  go_ret
  exact ⟨by first | rfl | simp, rfl⟩

set_option maxRecDepth 100000 in
set_option maxHeartbeats 1000000 in
theorem valid_any (m B : Nat) (c : Cl) (v : Vl) (w : World) (h : CL w B c v) (hok : Ok m c) (hm : m ≤ 100) :
    Calls Try.prog 63 #[.agg (cv c v)] w fun e w' => e = .returned (.bool true) ∧ Below w.heap.size w w' := by
  obtain ⟨s1, s2, r1, r2, p2, sb, rb, pb⟩ := hok
  have HB0 := Lib.hid (box_below w (.cells (cv c v) 25))
  have HR0 := Lib.hid (heap_alloc_new w (.cells (cv c v) 25))
  have HC := Lib.hid (h.base (Nat.zero_le B))
  have SB := Lib.hid sb
  have RB := Lib.hid rb
  have PB := Lib.hid pb
  clear h sb rb pb
  have t1 : (1 : Int) ≤ (c.r.length : Int) := by omega
  have t2 : (c.r.length : Int) ≤ 5 := by omega
  have t3 : (1 : Int) ≤ (c.s.length : Int) := by omega
  have t4 : (c.s.length : Int) ≤ 121 := by omega
  have t5 : (c.s.length : Int) - 1 ≤ 1000 := by omega
  have e5 : decide ((120 : Int) < (c.p.length : Int)) = false := decide_eq_false (by omega)
  have m1 : (w.alloc (.cells (cv c v) 25)).heap[w.heap.size]? = some (.cells (cv c v) 25 (0, 0)) := HR0.out
  obtain ⟨c0, c1, c2, c3⟩ := cvCells _ _ _ _ _ _ m1
  clear m1 c0
  go_enter Try.func63, Try.ntmps63
  go_wp2_with fail
  refine (in_yes _ _ _ _ t1 t2).mono ?_
  rintro e w1 ⟨rfl, rfl⟩
  go_wp2_with fail
  refine (in_yes _ _ _ _ t3 t4).mono ?_
  rintro e w1 ⟨rfl, rfl⟩
  go_wp2_with fail
  go_loopw [30] (fun ii wr => ∃ i : Nat, i ≤ c.s.length ∧ ii = .int .i64 i ∧ Below w.heap.size w wr ∧ wr.heap[w.heap.size]? = some (.cells (cv c v) 25 (0, 0))) (fun ii _ => c.s.length - (intOf ii).toNat)
  case atStart => exact ⟨0, by omega, rfl, HB0.out, HR0.out⟩
  case round =>
    obtain ⟨i, hi, rfl, hbl, hrow⟩ := hrel
    have HBL := Lib.hid hbl
    have HROW := Lib.hid hrow
    by_cases hlt : i < c.s.length
    · obtain ⟨b, off, hA, hB, hbk, d0⟩ := (HC.out.below hbl).r1.int hlt
      have hs := SB.out i hlt
      have u1 : (0 : Int) ≤ ((c.s.getD i 0 : Nat) : Int) := by omega
      have u2 : ((c.s.getD i 0 : Nat) : Int) ≤ 3 := by omega
      have i0 : (0 : Int) ≤ (i : Int) := by omega
      have i1 : (i : Int) < (c.s.length : Int) := by omega
      clear hbl hrow c1 c2 c3
      rw [hA]
      generalize c.s.getD i 0 = x at *
      go_wp2_with fail
      refine (in_yes _ _ _ _ u1 u2).mono ?_
      rintro e w1 ⟨rfl, rfl⟩
      go_wp2_with fail
      exact ⟨⟨i + 1, by omega, by go_num, HBL.out, HROW.out⟩, by simp [intOf]; omega⟩
    · obtain rfl : i = c.s.length := by omega
      clear c1 c2 c3
      obtain ⟨c0, c1, c2, c3⟩ := cvCells _ _ _ _ _ _ hrow
      clear hbl hrow c0
      go_wp2_with fail
      go_loopw [41] (fun ii wr => ∃ i : Nat, i ≤ c.r.length ∧ ii = .int .i64 i ∧ Below w.heap.size w wr ∧ wr.heap[w.heap.size]? = some (.cells (cv c v) 25 (0, 0))) (fun ii _ => c.r.length - (intOf ii).toNat)
      case atStart => exact ⟨0, by omega, rfl, HBL.out, HROW.out⟩
      case round =>
        obtain ⟨i, hi, rfl, hbl, hrow⟩ := hrel
        have HBL := Lib.hid hbl
        have HROW := Lib.hid hrow
        clear c1 c2 c3
        obtain ⟨c0, c1, c2, c3⟩ := cvCells _ _ _ _ _ _ hrow
        by_cases hlt : i < c.r.length
        · obtain ⟨b, off, hA, hB, hbk, d0, d1⟩ := (HC.out.below hbl).r2.rep hlt
          have hs := RB.out i hlt
          have u1 : (0 : Int) ≤ (((rd c.r i).1 : Nat) : Int) := by omega
          have u2 : (((rd c.r i).1 : Nat) : Int) ≤ (c.s.length : Int) - 1 := by omega
          have i0 : (0 : Int) ≤ (i : Int) := by omega
          have i1 : (i : Int) < (c.r.length : Int) := by omega
          have HX := Lib.hid (fun o => HBL.out.trans ((box_below wr o).mono HBL.out.size))
          have HY := Lib.hid (fun o => (heap_alloc_old wr o (row_lt hrow)).trans hrow)
          have hw1 : ∀ o, (wr.alloc o).cell? ⟨w.heap.size, 1, none⟩ = some (.slice v.A1 c.s.length v.c1) := fun o => (World.cell?_alloc_lt _ _ _ (row_lt hrow)).trans c1
          clear hbl hrow c0 c1 c2 c3
          rw [hA]
          generalize (rd c.r i).1 = x at *
          generalize (rd c.r i).2 = y at *
          go_wp2_with fail
          refine (in_yes _ _ _ _ u1 u2).mono ?_
          rintro e w1 ⟨rfl, rfl⟩
          go_wp2_with fail
          exact ⟨⟨i + 1, by omega, by go_num, HX.out _, HY.out _⟩, by simp [intOf]; omega⟩
        · obtain rfl : i = c.r.length := by omega
          clear hbl hrow c0
          go_wp2_with fail
          go_loopw [57] (fun ii wr => ∃ i : Nat, i ≤ c.p.length ∧ ii = .int .i64 i ∧ Below w.heap.size w wr ∧ wr.heap[w.heap.size]? = some (.cells (cv c v) 25 (0, 0))) (fun ii _ => c.p.length - (intOf ii).toNat)
          case atStart => exact ⟨0, by omega, rfl, HBL.out, HROW.out⟩
          case round =>
            obtain ⟨i, hi, rfl, hbl, hrow⟩ := hrel
            have HBL := Lib.hid hbl
            have HROW := Lib.hid hrow
            clear c1 c2 c3
            obtain ⟨c0, c1, c2, c3⟩ := cvCells _ _ _ _ _ _ hrow
            by_cases hlt : i < c.p.length
            · obtain ⟨b, off, hA, hB, hbk, d0⟩ := (HC.out.below hbl).r3.int hlt
              have hs := PB.out i hlt
              have u1 : (0 : Int) ≤ ((c.p.getD i 0 : Nat) : Int) := by omega
              have u2 : ((c.p.getD i 0 : Nat) : Int) ≤ (c.s.length : Int) - 1 := by omega
              have i0 : (0 : Int) ≤ (i : Int) := by omega
              have i1 : (i : Int) < (c.p.length : Int) := by omega
              clear hbl hrow
              rw [hA]
              generalize c.p.getD i 0 = x at *
              go_wp2_with fail
              refine (in_yes _ _ _ _ u1 u2).mono ?_
              rintro e w1 ⟨rfl, rfl⟩
              go_wp2_with fail
              exact ⟨⟨i + 1, by omega, by go_num, HBL.out, HROW.out⟩, by simp [intOf]; omega⟩
            · obtain rfl : i = c.p.length := by omega
              clear hbl hrow c0
              go_wp2_with fail
              go_ret
              exact ⟨rfl, HBL.out⟩

end Go.Proofs.Ytamcjhibdcbdnaa.Cl
