import Derived.Test.YtamcjhibdcbdnaaCEs
namespace Go.Proofs.Ytamcjhibdcbdnaa.Cl
open Go.RowKit
open Go.Proofs.Ytamcjhibdcbdnaa.Tp
set_option linter.unusedVariables false

set_option maxRecDepth 100000 in
set_option maxHeartbeats 400000 in
theorem equal_any (A A' : Option Addr) (n cc cc' : Nat) (l : List (Nat × Bool)) (w : World) (h1 : Row w 0 2 A n (rv l)) (h2 : Row w 0 2 A' n (rv l)) (hn : n ≤ 1000) :
    Calls Try.prog 36 #[.slice A n cc, .slice A' n cc'] w fun e w' => e = .returned (.bool true) ∧ Below w.heap.size w w' := by
  have H1 := Lib.hid h1
  have H2 := Lib.hid h2
  clear h1 h2
  go_enter Try.func36, Try.ntmps36
  go_wp2_with fail
  go_loopw [13] (fun ii wr => ∃ k : Nat, k ≤ n ∧ ii = .int .i64 k ∧ ∃ q, wr = w.drewN q) (fun ii _ => n - (intOf ii).toNat)
  case atStart => exact ⟨0, by omega, rfl, 0, rfl⟩
  case round =>
    obtain ⟨k, hk, rfl, q, rfl⟩ := hrel
    by_cases hlt : k < n
    · obtain ⟨b, off, hA, -, -, d0, d1⟩ := H1.out.rep hlt
      obtain ⟨b', off', hA', -, -, d0', d1'⟩ := H2.out.rep hlt
      subst hA hA'
      have i0 : (0 : Int) ≤ (k : Int) := by omega
      have i1 : (k : Int) < (n : Int) := by omega
      generalize (rd l k).1 = x at *
      generalize (rd l k).2 = y at *
      go_wp2_with fail
      go_quiet (fail)
      go_wp2_with fail
      exact ⟨⟨k + 1, by omega, by go_num, _, rfl⟩, by simp [intOf]; omega⟩
    · obtain rfl : k = n := by omega
      go_wp2_with fail
      go_ret
      exact ⟨rfl, ⟨rfl, rfl, rfl, Nat.le_refl _, fun _ _ => rfl⟩⟩

set_option maxRecDepth 100000 in
set_option maxHeartbeats 1000000 in
theorem same_any (B B' : Nat) (c : Cl) (v v' : Vl) (w : World) (h : CL w B c v) (h' : CL w B' c v') (hs : c.s.length ≤ 1000) (hr : c.r.length ≤ 1000) (hp : c.p.length ≤ 1000) :
    Calls Try.prog 18 #[.agg (cv c v), .agg (cv c v')] w fun e w' => e = .returned (.bool true) ∧ Below w.heap.size w w' := by
  have hbz := (box_below w (.cells (cv c v) 25)).trans ((box_below (w.alloc (.cells (cv c v) 25)) (.cells (cv c v') 25)).mono (by simp))
  have R0 := Lib.hid (heap_alloc2_old w (.cells (cv c v) 25) (.cells (cv c v') 25))
  have R1 := Lib.hid (heap_alloc2_new w (.cells (cv c v) 25) (.cells (cv c v') 25))
  have HC := Lib.hid (h.below hbz)
  have HC' := Lib.hid (h'.below hbz)
  have HBZ := Lib.hid hbz
  clear h h' hbz
  obtain ⟨A1, k1, A2, k2, A3, k3⟩ := v
  obtain ⟨B1, j1, B2, j2, B3, j3⟩ := v'
  obtain ⟨c0, c1, c2, c3⟩ := cvCells _ _ _ _ _ _ R0.out
  obtain ⟨d0, d1, d2, d3⟩ := cvCells _ _ _ _ _ _ R1.out
  go_enter Try.func18, Try.ntmps18
  go_wp2_with fail
  clear c0 c1 c2 c3 d0 d1 d2 d3
  generalize (w.alloc (.cells (cv c ⟨A1, k1, A2, k2, A3, k3⟩) 25)).alloc (.cells (cv c ⟨B1, j1, B2, j2, B3, j3⟩) 25) = W0 at *
  go_loopw [43] (fun ii wr => ∃ k : Nat, k ≤ c.s.length ∧ ii = .int .i64 k ∧ ∃ q, wr = W0.drewN q) (fun ii _ => c.s.length - (intOf ii).toNat)
  case atStart => exact ⟨0, by omega, rfl, 0, rfl⟩
  case round =>
    obtain ⟨k, hk, rfl, q, rfl⟩ := hrel
    obtain ⟨c0, c1, c2, c3⟩ := cvCells _ _ _ _ _ _ R0.out
    obtain ⟨d0, d1, d2, d3⟩ := cvCells _ _ _ _ _ _ R1.out
    by_cases hlt : k < c.s.length
    · obtain ⟨b, off, hA, -, -, x0⟩ := HC.out.r1.int hlt
      obtain ⟨b', off', hA', -, -, x0'⟩ := HC'.out.r1.int hlt
      simp only at hA hA' c1 d1
      subst hA hA'
      have i0 : (0 : Int) ≤ (k : Int) := by omega
      have i1 : (k : Int) < (c.s.length : Int) := by omega
      generalize c.s.getD k 0 = x at *
      go_wp2_with fail
      go_quiet (fail)
      go_wp2_with fail
      exact ⟨⟨k + 1, by omega, by go_num, _, rfl⟩, by simp [intOf]; omega⟩
    · obtain rfl : k = c.s.length := by omega
      go_wp2_with fail
      clear c0 c1 c2 c3 d0 d1 d2 d3
      go_loopw [61] (fun ii wr => ∃ k : Nat, k ≤ c.r.length ∧ ii = .int .i64 k ∧ ∃ q, wr = W0.drewN q) (fun ii _ => c.r.length - (intOf ii).toNat)
      case atStart => exact ⟨0, by omega, rfl, q, rfl⟩
      case round =>
        obtain ⟨k, hk, rfl, q, rfl⟩ := hrel
        obtain ⟨c0, c1, c2, c3⟩ := cvCells _ _ _ _ _ _ R0.out
        obtain ⟨d0, d1, d2, d3⟩ := cvCells _ _ _ _ _ _ R1.out
        by_cases hlt : k < c.r.length
        · obtain ⟨b, off, hA, -, -, x0, x1⟩ := HC.out.r2.rep hlt
          obtain ⟨b', off', hA', -, -, x0', x1'⟩ := HC'.out.r2.rep hlt
          simp only at hA hA' c2 d2
          subst hA hA'
          have i0 : (0 : Int) ≤ (k : Int) := by omega
          have i1 : (k : Int) < (c.r.length : Int) := by omega
          generalize (rd c.r k).1 = x at *
          generalize (rd c.r k).2 = y at *
          go_wp2_with fail
          go_quiet (fail)
          go_wp2_with fail
          exact ⟨⟨k + 1, by omega, by go_num, _, rfl⟩, by simp [intOf]; omega⟩
        · obtain rfl : k = c.r.length := by omega
          go_wp2_with fail
          clear c0 c1 c2 c3 d0 d1 d2 d3
          go_loopw [79] (fun ii wr => ∃ k : Nat, k ≤ c.p.length ∧ ii = .int .i64 k ∧ ∃ q, wr = W0.drewN q) (fun ii _ => c.p.length - (intOf ii).toNat)
          case atStart => exact ⟨0, by omega, rfl, q, rfl⟩
          case round =>
            obtain ⟨k, hk, rfl, q, rfl⟩ := hrel
            obtain ⟨c0, c1, c2, c3⟩ := cvCells _ _ _ _ _ _ R0.out
            obtain ⟨d0, d1, d2, d3⟩ := cvCells _ _ _ _ _ _ R1.out
            by_cases hlt : k < c.p.length
            · obtain ⟨b, off, hA, -, -, x0⟩ := HC.out.r3.int hlt
              obtain ⟨b', off', hA', -, -, x0'⟩ := HC'.out.r3.int hlt
              simp only at hA hA' c3 d3
              subst hA hA'
              have i0 : (0 : Int) ≤ (k : Int) := by omega
              have i1 : (k : Int) < (c.p.length : Int) := by omega
              generalize c.p.getD k 0 = x at *
              go_wp2_with fail
              go_quiet (fail)
              go_wp2_with fail
              exact ⟨⟨k + 1, by omega, by go_num, _, rfl⟩, by simp [intOf]; omega⟩
            · obtain rfl : k = c.p.length := by omega
              go_wp2_with fail
              go_ret
              exact ⟨rfl, ⟨HBZ.out.os, HBZ.out.tape, HBZ.out.output, HBZ.out.size, HBZ.out.block⟩⟩

end Go.Proofs.Ytamcjhibdcbdnaa.Cl
