import Derived.Test.YtgknfkmojhganaaGreatDjK
namespace Go.Proofs.YtgknfkmojhganaaGreat.Di
open Go.RowKit
open Go.Proofs.YtgknfkmojhganaaGreat.Tp
set_option linter.unusedVariables false

/-- Is a list closed? -/
noncomputable def clB (d : Dy) (t : Nat) (l : List Nat) : Bool := !anyB (fun i => outB (dm d t) d.k.length l (l.getD i 0)) l.length

set_option maxRecDepth 100000 in
set_option maxHeartbeats 1000000 in
theorem closed_any (B : Nat) (d : Dy) (v : Vd) (t cs : Nat) (As : Option Addr) (l : List Nat) (w : World) (h : DL w B d v) (hok : Ok d) (hl : Row w 0 1 As l.length (iv l)) (hst : Strict l d.k.length) :
    Calls Tryz.prog 59 #[.agg (gd d v), .int .i64 (t : Int), .slice As l.length cs] w fun e w' => e = .returned (.bool (clB d t l)) ∧ Below w.heap.size w w' := by
  have hb := (box_below w (.cells (gd d v) 25)).trans ((box_below (w.alloc (.cells (gd d v) 25)) (.cells #[.slice As l.length cs] 22)).mono (by simp))
  have HB := Lib.hid hb
  have a1 := heap_alloc2_old w (.cells (gd d v) 25) (.cells #[.slice As l.length cs] 22)
  have a2 := heap_alloc2_new w (.cells (gd d v) 25) (.cells #[.slice As l.length cs] 22)
  have A1 := Lib.hid a1
  have A2 := Lib.hid a2
  have hn := hok.n
  have hln : l.length ≤ 24 := Nat.le_trans hst.len hn
  have HOK := Lib.hid hok
  have HD := Lib.hid h
  have HL := Lib.hid hl
  have HST := Lib.hid hst
  have hck := fun w' (hw : Below w.heap.size w w') => check_any B d v w' (h.below hw) hok
  have hex := fun p w' => exists_any d v p w'
  have hma := fun w' (hw : Below w.heap.size w w') => members_any B d v t w' (h.below hw) hok
  simp only [gd] at hck hma hex
  have HCK := Lib.hid hck
  have HEX := Lib.hid hex
  have HMA := Lib.hid hma
  obtain ⟨g0, g1⟩ := gdCells a1
  have g2 : ((w.alloc (.cells (gd d v) 25)).alloc (.cells #[.slice As l.length cs] 22)).cell? ⟨w.heap.size + 1, 0, none⟩ = some (.slice As l.length cs) := by rw [cell_of_row _ _ _ _ _ _ a2]; rfl
  have hsz : ((w.alloc (.cells (gd d v) 25)).alloc (.cells #[.slice As l.length cs] 22)).heap.size = w.heap.size + 1 + 1 := by simp
  have HSZ := Lib.hid hsz
  clear hb a1 a2 h hok hck hex hma hl hst hsz
  go_enter Tryz.func59, Tryz.ntmps59
  go_wp2_with fail
  refine (HCK.out _ HB.out).mono ?_
  rintro e w1 ⟨rfl, hb1⟩
  have B1 := Lib.hid (HB.out.trans (hb1.mono HB.out.size))
  have C1 := Lib.hid ((hb1.block _ (row_lt A1.out)).trans A1.out)
  have C2 := Lib.hid ((hb1.block _ (row_lt A2.out)).trans A2.out)
  have HGC := Lib.hid (fun w' (hw : Below w1.heap.size w1 w') => And.intro (gdCells ((hw.block _ (row_lt C1.out)).trans C1.out)) (show w'.cell? ⟨w.heap.size + 1, 0, none⟩ = some (.slice As l.length cs) by rw [cell_of_row _ _ _ _ _ _ ((hw.block _ (row_lt C2.out)).trans C2.out)]; rfl))
  have HL1 := Lib.hid (HL.out.below B1.out)
  obtain ⟨⟨c0, c1⟩, c2⟩ := HGC.out _ (Below.refl _ _)
  clear hb1 g0 g1 g2
  go_wp2_with fail
  clear c0 c1 c2
  go_loopw [15] (fun ii wr => ∃ i : Nat, i ≤ l.length ∧ ii = .int .i64 i ∧ Below w1.heap.size w1 wr) (fun ii _ => l.length - (intOf ii).toNat)
  case atStart => exact ⟨0, by omega, rfl, Below.refl _ _⟩
  case round =>
    obtain ⟨i, hi, rfl, hbl⟩ := hrel
    have HBI := Lib.hid hbl
    have HBW := Lib.hid (B1.out.trans (hbl.mono B1.out.size))
    obtain ⟨⟨c0, c1⟩, c2⟩ := HGC.out _ hbl
    by_cases hlt : i < l.length
    · obtain ⟨b, off, hAs, -, -, y0⟩ := (HL1.out.below hbl).int hlt
      have hpn := HST.out.lt i hlt
      have hE := HEX.out (l.getD i 0) wr
      rw [decide_eq_true hpn] at hE
      have i0 : (0 : Int) ≤ (i : Int) := by omega
      have i1 : (i : Int) < (l.length : Int) := by omega
      subst hAs
      cases i with
      | zero =>
        generalize l.getD 0 0 = p at *
        have HE := Lib.hid hE
        have e00 : ((0 : Nat) : Int) = 0 := rfl
        simp only [e00]
        rw [Nat.add_zero] at y0
        clear hE hbl e00
        go_wp2_with (go_at_call 83; (with_reducible refine HE.out.mono ?_); rintro e w2 ⟨rfl, hb2⟩; have B2 := Lib.hid (HBI.out.trans (hb2.mono HBI.out.size)); clear hb2)
        exact ⟨⟨1, by omega, by go_num, B2.out⟩, by simp [intOf]; omega⟩
      | succ k =>
        obtain ⟨b', off', e7, -, -, y1⟩ := (HL1.out.below hbl).int (show k < l.length by omega)
        cases e7
        have hup := HST.out.up k hlt
        generalize l.getD (k + 1) 0 = p at *
        generalize l.getD k 0 = o at *
        have hw1 : IntKind.i64.wrap (((k + 1 : Nat) : Int) - 1) = (k : Int) := by rw [IntWalk.i64_in _ (by omega)]; omega
        have HE := Lib.hid hE
        have HK := Lib.hid (fun w' (hw : Below wr.heap.size wr w') => HGC.out w' (HBI.out.trans (hw.mono HBI.out.size)))
        have HY := Lib.hid (fun w' (hw : Below wr.heap.size wr w') => (hw.cell (p := ⟨b, off + k, none⟩) (block_lt_of_cell y1)).trans y1)
        have d1 : decide ((p : Int) ≤ (o : Int)) = false := decide_eq_false (by omega)
        have d2 : decide (p ≤ o) = false := decide_eq_false (by omega)
        have k0 : (0 : Int) ≤ (k : Int) := by omega
        have k1 : (k : Int) < (l.length : Int) := by omega
        clear hE hbl
        go_wp2_with (go_at_call 83; (with_reducible refine HE.out.mono ?_); rintro e w2 ⟨rfl, hb2⟩; have B2 := Lib.hid (HBI.out.trans (hb2.mono HBI.out.size)); obtain ⟨⟨x0, x1⟩, x2⟩ := HK.out _ hb2; have y2 := HY.out _ hb2; clear hb2)
        exact ⟨⟨k + 1 + 1, by omega, by go_num, B2.out⟩, by simp [intOf]; omega⟩
    · obtain rfl : l.length = i := by omega
      have hCB : clB d t l = !anyB (fun i => outB (dm d t) d.k.length l (l.getD i 0)) l.length := rfl
      have HCB := Lib.hid hCB
      clear hbl hCB
      go_wp2_with fail
      refine (HMA.out _ HBW.out).mono ?_
      rintro e w3 ⟨G, g, rfl, hmo, hb3⟩
      have B3 := Lib.hid (HBW.out.trans (hb3.mono HBW.out.size))
      have B3' := Lib.hid (HBI.out.trans (hb3.mono HBI.out.size))
      have hbx := box_below w3 (.cells #[.slice (some ⟨G, 0, none⟩) d.k.length d.k.length] 118)
      have F1 := Lib.hid (((B3'.out.trans (hbx.mono B3'.out.size)).block _ (row_lt C1.out)).trans C1.out)
      have F2 := Lib.hid (((B3'.out.trans (hbx.mono B3'.out.size)).block _ (row_lt C2.out)).trans C2.out)
      have F3 := Lib.hid (heap_alloc_new w3 (.cells #[.slice (some ⟨G, 0, none⟩) d.k.length d.k.length] 118))
      have B4 := Lib.hid (B3.out.trans (hbx.mono B3.out.size))
      have HM4 := Lib.hid (hmo.below hbx).mm
      obtain ⟨⟨q0, q1⟩, q2⟩ := HGC.out _ (B3'.out.trans (hbx.mono B3'.out.size))
      have HCO := Lib.hid (cont58_any l #[.pointer (some ⟨w.heap.size, 0, none⟩), .pointer (some ⟨w3.heap.size, 0, none⟩), .pointer (some ⟨w.heap.size + 1, 0, none⟩)] As l.length cs (fun i => outB (dm d t) d.k.length l (l.getD i 0)) (w3.alloc (.cells #[.slice (some ⟨G, 0, none⟩) d.k.length d.k.length] 118)) (by omega) (HL.out.below B4.out)
        (fun i hi w' hw => cl58_call B d v (l.getD i 0) w.heap.size w3.heap.size (w.heap.size + 1) cs (some ⟨G, 0, none⟩) As l (dm d t) w' ((HD.out.below B4.out).below hw) ((hw.block _ (row_lt F1.out)).trans F1.out) ((hw.block _ (row_lt F3.out)).trans F3.out) ((hw.block _ (row_lt F2.out)).trans F2.out) ((HM4.out.base (Nat.zero_le _)).below hw) ((HL.out.below B4.out).below hw) (by omega) (HST.out.lt i hi) (by omega)))
      generalize anyB (fun i => outB (dm d t) d.k.length l (l.getD i 0)) l.length = ab at *
      clear hb3 hmo hbx c0 c1 c2
      go_wp2_with (go_at_call 62; (with_reducible refine HCO.out.mono ?_); rintro e w5 ⟨rfl, hb5⟩; have B5 := Lib.hid (B4.out.trans (hb5.mono B4.out.size)); clear hb5)
      go_ret
      refine ⟨?_, B5.out⟩
      rw [HCB.out]
      first | rfl | simp

end Go.Proofs.YtgknfkmojhganaaGreat.Di
