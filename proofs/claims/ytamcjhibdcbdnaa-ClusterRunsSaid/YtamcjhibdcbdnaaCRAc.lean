import Derived.Test.YtamcjhibdcbdnaaCVal
import Derived.Test.YtamcjhibdcbdnaaCAcc
namespace Go.Proofs.Ytamcjhibdcbdnaa.Cl
open Go.RowKit
open Go.Proofs.Ytamcjhibdcbdnaa.Tp
set_option linter.unusedVariables false

set_option maxRecDepth 100000 in
set_option maxHeartbeats 1000000 in
theorem refAccepts_any (m B i : Nat) (c : Cl) (v : Vl) (w : World) (h : CL w B c v) (hok : Ok m c) (hm : m ≤ 100) (hi : i < c.r.length) :
    Calls Try.prog 30 #[.agg (cv c v), .int .i64 (i : Int), .int .i64 1] w fun e w' => e = .returned (.bool (acc c i 1)) ∧ Below w.heap.size w w' := by
  have HB0 := Lib.hid (box_below w (.cells (cv c v) 25))
  have HR0 := Lib.hid (heap_alloc_new w (.cells (cv c v) 25))
  have hch : ∀ w', Below w.heap.size w w' → Calls Try.prog 63 #[.agg #[.bool c.f, .slice v.A1 c.s.length v.c1, .slice v.A2 c.r.length v.c2, .slice v.A3 c.p.length v.c3]] w' fun e w'' => e = .returned (.bool true) ∧ Below w'.heap.size w' w'' := fun w' hw => valid_any m B c v w' (h.below hw) hok hm
  have HCH := Lib.hid hch
  have s2 := hok.s2
  have r2 := hok.r2
  have hg := hok.rb i hi
  have hs := hok.sb _ hg
  have HC := Lib.hid h
  have hrow : (w.alloc (.cells (cv c v) 25)).heap[w.heap.size]? = some (.cells (cv c v) 25 (0, 0)) := HR0.out
  clear h hch hok
  obtain ⟨c0, c1, c2, c3⟩ := cvCells _ _ _ _ _ _ hrow
  clear hrow
  have u1 : (0 : Int) ≤ (i : Int) := by omega
  have u2 : (i : Int) ≤ (c.r.length : Int) - 1 := by omega
  have u3 : (i : Int) < (c.r.length : Int) := by omega
  have hac : acc c i 1 = ((rd c.r i).2 && has (c.s.getD (rd c.r i).1 0) 1) := rfl
  obtain ⟨z, hz⟩ : ∃ z, acc c i 1 = z := ⟨_, rfl⟩
  rw [hz]
  have HZ2 := Lib.hid (hz.symm.trans hac)
  clear hac hz
  go_enter Try.func30, Try.ntmps30
  go_wp2_with fail
  refine (HCH.out _ HB0.out).mono ?_
  rintro e w1 ⟨rfl, hb1⟩
  have R1 := Lib.hid ((hb1.block w.heap.size (row_lt HR0.out)).trans HR0.out)
  have HB1 := Lib.hid (HB0.out.trans (hb1.mono HB0.out.size))
  clear hb1 c0 c1 c2 c3
  obtain ⟨c0, c1, c2, c3⟩ := cvCells _ _ _ _ _ _ R1.out
  obtain ⟨b2, off2, hA2, -, hlt2, d0, d1⟩ := (HC.out.below HB1.out).r2.rep hi
  obtain ⟨b1, off1, hA1, -, hlt1, t0⟩ := (HC.out.below HB1.out).r1.int hg
  rw [hA2] at c2
  rw [hA1] at c1
  have hd := has_dec (c.s.getD (rd c.r i).1 0) 1 hs (by omega)
  generalize hgg : (rd c.r i).1 = g at *
  generalize (rd c.r i).2 = sv at *
  generalize c.s.getD g 0 = x at *
  have i0 : (0 : Int) ≤ (g : Int) := by omega
  have i1 : (g : Int) < (c.s.length : Int) := by omega
  have HBA := Lib.hid (HB1.out.trans ((box_below w1 (.cells #[.int .i64 (g : Int), .bool sv] 60)).mono HB1.out.size))
  have hlw := row_lt R1.out
  have c1' : ∀ o, (w1.alloc o).cell? ⟨w.heap.size, 1, none⟩ = some (.slice (some ⟨b1, off1, none⟩) c.s.length v.c1) := fun o => (World.cell?_alloc_lt _ _ _ hlw).trans c1
  have t0' : ∀ o, (w1.alloc o).cell? ⟨b1, off1 + g, none⟩ = some (.int .i64 (x : Int)) := fun o => (World.cell?_alloc_lt _ _ _ hlt1).trans t0
  clear hgg
  generalize hH : has x 1 = H at *
  clear hH
  go_wp2_with fail
  refine (in_yes _ _ _ _ u1 u2).mono ?_
  rintro e w' ⟨rfl, rfl⟩
  cases sv with
  | false =>
    go_wp2_with fail
    go_ret
    refine ⟨?_, HBA.out⟩
    rw [HZ2.out]
    rfl
  | true =>
    go_wp2_with fail
    go_ret
    refine ⟨?_, HBA.out⟩
    have hd' : (bits .and .i64 (x : Int) 1 == 0) = !H := hd
    have e : (bits .and .i64 (x : Int) 1 != 0) = H := by rw [bne, hd']; cases H <;> rfl
    rw [HZ2.out]
    exact congrArg (fun b => Ending.returned (.bool b)) (by simpa using e)

set_option maxRecDepth 100000 in
set_option maxHeartbeats 1000000 in
theorem refDead_any (m B : Nat) (c : Cl) (v : Vl) (w : World) (h : CL w B c v) (hok : Ok m c) (hm : m ≤ 100) :
    Calls Try.prog 33 #[.agg (cv c v), .int .i64 1] w fun e w' => e = .returned (.bool (dead c 1)) ∧ Below w.heap.size w w' := by
  have HB0 := Lib.hid (box_below w (.cells (cv c v) 25))
  have HR0 := Lib.hid (heap_alloc_new w (.cells (cv c v) 25))
  have hch : ∀ w', Below w.heap.size w w' → Calls Try.prog 63 #[.agg #[.bool c.f, .slice v.A1 c.s.length v.c1, .slice v.A2 c.r.length v.c2, .slice v.A3 c.p.length v.c3]] w' fun e w'' => e = .returned (.bool true) ∧ Below w'.heap.size w' w'' := fun w' hw => valid_any m B c v w' (h.below hw) hok hm
  have HCH := Lib.hid hch
  have s1 := hok.s1
  have s2 := hok.s2
  have r2 := hok.r2
  have hs := hok.sb (c.s.length - 1) (by omega)
  have HC := Lib.hid h
  have HAC := Lib.hid (fun i (hi : i < c.r.length) w' (hw : Below w.heap.size w w') => refAccepts_any m B i c v w' (h.below hw) hok hm hi)
  have hrow : (w.alloc (.cells (cv c v) 25)).heap[w.heap.size]? = some (.cells (cv c v) 25 (0, 0)) := HR0.out
  clear h hch hok
  obtain ⟨c0, c1, c2, c3⟩ := cvCells _ _ _ _ _ _ hrow
  clear hrow
  obtain ⟨z, hz⟩ : ∃ z, dead c 1 = z := ⟨_, rfl⟩
  rw [hz]
  have HZ2 := Lib.hid (show z = (!has (c.s.getD (c.s.length - 1) 0) 1 && none_ c 1 c.r.length) from hz.symm)
  clear hz
  go_enter Try.func33, Try.ntmps33
  go_wp2_with fail
  refine (HCH.out _ HB0.out).mono ?_
  rintro e w1 ⟨rfl, hb1⟩
  have R1 := Lib.hid ((hb1.block w.heap.size (row_lt HR0.out)).trans HR0.out)
  have HB1 := Lib.hid (HB0.out.trans (hb1.mono HB0.out.size))
  clear hb1 c0 c1 c2 c3
  obtain ⟨c0, c1, c2, c3⟩ := cvCells _ _ _ _ _ _ R1.out
  obtain ⟨b1, off1, hA1, -, hlt1, t0⟩ := (HC.out.below HB1.out).r1.int (i := c.s.length - 1) (by omega)
  have HA1 := Lib.hid hA1
  rw [hA1] at c1
  have hd := has_dec (c.s.getD (c.s.length - 1) 0) 1 hs (by omega)
  clear hA1
  generalize c.s.getD (c.s.length - 1) 0 = x at *
  have j0 : (0 : Int) ≤ (c.s.length : Int) - 1 := by omega
  have j1 : (c.s.length : Int) - 1 < (c.s.length : Int) := by omega
  have j2 : ((c.s.length : Int) - 1).toNat = c.s.length - 1 := by omega
  cases hH : has x 1 with
  | true =>
    rw [hH] at hd HZ2
    clear hH
    have hd2 : (bits .and .i64 (x : Int) 1 != 0) = true := by
      have : (bits .and .i64 (x : Int) 1 == 0) = false := hd
      rw [bne, this]; rfl
    clear hd
    go_wp2_with fail
    go_ret
    refine ⟨?_, HB1.out⟩
    rw [HZ2.out]
    rfl
  | false =>
    rw [hH] at hd HZ2
    clear hH
    have hd2 : (bits .and .i64 (x : Int) 1 != 0) = false := by
      have : (bits .and .i64 (x : Int) 1 == 0) = true := hd
      rw [bne, this]; rfl
    clear hd
    go_wp2_with fail
    go_loopw [33] (fun ii wr => ∃ k : Nat, k ≤ c.r.length ∧ ii = .int .i64 k ∧ none_ c 1 k = true ∧ Below w.heap.size w wr ∧ wr.heap[w.heap.size]? = some (.cells (cv c v) 25 (0, 0))) (fun ii _ => c.r.length - (intOf ii).toNat)
    case atStart => exact ⟨0, by omega, rfl, rfl, HB1.out, R1.out⟩
    case round =>
      clear c0 c1 c2 c3 t0 j0 j1 j2 hd2
      obtain ⟨k, hk, rfl, hno, hbl, hrow⟩ := hrel
      obtain ⟨c0, c1, c2, c3⟩ := cvCells _ _ _ _ _ _ hrow
      have HNO := Lib.hid hno
      have HBL := Lib.hid hbl
      have HROW := Lib.hid hrow
      clear hno hbl hrow
      by_cases hlt : k < c.r.length
      · have hx : ∀ w', Below w.heap.size w w' → Calls Try.prog 30 #[.agg #[.bool c.f, .slice v.A1 c.s.length v.c1, .slice v.A2 c.r.length v.c2, .slice v.A3 c.p.length v.c3], .int .i64 (k : Int), .int .i64 1] w' fun e w'' => e = .returned (.bool (acc c k 1)) ∧ Below w'.heap.size w' w'' := HAC.out k hlt
        have HX := Lib.hid hx
        clear hx
        go_wp2_with fail
        refine (HX.out _ HBL.out).mono ?_
        rintro e w2 ⟨rfl, hb2⟩
        have R2 := Lib.hid ((hb2.block w.heap.size (row_lt HROW.out)).trans HROW.out)
        have HB2 := Lib.hid (HBL.out.trans (hb2.mono HBL.out.size))
        clear hb2
        cases hq : acc c k 1 with
        | true =>
          have HQ := Lib.hid hq
          clear hq
          go_wp2_with fail
          go_ret
          refine ⟨?_, HB2.out⟩
          have : none_ c 1 c.r.length = false := by
            cases hn : none_ c 1 c.r.length with
            | false => rfl
            | true => rw [(none_iff c 1 _).1 hn k hlt] at HQ; cases HQ.out
          rw [HZ2.out, this]
          rfl
        | false =>
          have HQ := Lib.hid (show none_ c 1 (k + 1) = true by rw [none_, HNO.out, hq]; rfl)
          clear hq
          go_wp2_with fail
          exact ⟨⟨k + 1, by omega, by go_num, HQ.out, HB2.out, R2.out⟩, by simp [intOf]; omega⟩
      · obtain rfl : k = c.r.length := by omega
        go_wp2_with fail
        go_ret
        refine ⟨?_, HBL.out⟩
        rw [HZ2.out, HNO.out]
        rfl

end Go.Proofs.Ytamcjhibdcbdnaa.Cl
