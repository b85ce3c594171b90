import Derived.Test.YtablgpcgfogfoaaRgD
namespace Go.Proofs.Ytablgpcgfogfoaa.Rg
open Go.RowKit
open Go.Proofs.Ytablgpcgfogfoaa.Tp
set_option linter.unusedVariables false

set_option maxRecDepth 100000 in
set_option maxHeartbeats 2000000 in
theorem right_any (B : Nat) (nm : ByteArray) (r : Rg) (v : Vr) (w : World) (hr : RL w B nm r v) (hn : Nm nm) (hw : Wf r) :
    Calls Try.prog 42 #[.agg (gv r v)] w fun e w' => e = .returned (.bool (!crowd r)) ∧ Below w.heap.size w w' := by
  obtain ⟨n1, n2, ws, wc⟩ := hw
  have HB0 := Lib.hid (box_below w (.cells (gv r v) 26))
  have R0 := Lib.hid (heap_alloc_new w (.cells (gv r v) 26))
  have HRL := Lib.hid hr
  have WS := Lib.hid ws
  have WC := Lib.hid wc
  have HHD := Lib.hid (fun i h t w' (hw : Below w.heap.size w w') => refheld_any B nm r v i h t w' (hr.below hw) (by omega))
  have HFI := Lib.hid (fun x (hx : Cw r x) w' => fields_any r v x w' hx n1)
  have HNM := Lib.hid (fun w' => name_any nm w' hn)
  unfold HdPost at HHD
  clear hr ws wc
  have e1 : decide ((8 : Int) < (r.s.length : Int)) = false := decide_eq_false (by omega)
  have e2 : decide ((24 : Int) < (r.c.length : Int)) = false := decide_eq_false (by omega)
  obtain ⟨g0, g1⟩ := gvCells R0.out
  have hk : ∀ w', Below (w.alloc (.cells (gv r v) 26)).heap.size (w.alloc (.cells (gv r v) 26)) w' → w'.heap[w.heap.size]? = some (.cells (gv r v) 26 (0, 0)) ∧ Below w.heap.size w w' := fun w' hb => ⟨(hb.block _ (row_lt R0.out)).trans R0.out, HB0.out.trans (hb.mono HB0.out.size)⟩
  have HK := Lib.hid hk
  clear hk
  go_enter Try.func42, Try.ntmps42
  go_wp2_with fail
  clear g0 g1 e1 e2
  generalize w.alloc (.cells (gv r v) 26) = W0 at *
  go_loopw [22] (fun ii wr => ∃ k : Nat, k ≤ r.s.length ∧ ii = .int .i64 k ∧ Below W0.heap.size W0 wr) (fun ii _ => r.s.length - (intOf ii).toNat)
  case atStart => exact ⟨0, by omega, rfl, Below.refl _ _⟩
  case round =>
    obtain ⟨k, hk, rfl, hbl⟩ := hrel
    obtain ⟨hrow, hbw⟩ := HK.out wr hbl
    have HBL := Lib.hid hbl
    have HROW := Lib.hid hrow
    have HBW := Lib.hid hbw
    clear hbl hrow hbw
    by_cases hlt : k < r.s.length
    · obtain ⟨s1, s2⟩ := WS.out k hlt
      obtain ⟨b, off, hA, -, hbk, y0, y1⟩ := (HRL.out.below HBW.out).r1.iss hlt
      have hK : r.s.getD k 0 = sl r k := rfl
      rw [hK] at y1
      clear hK
      generalize sl r k = s at *
      have j0 : (0 : Int) ≤ (k : Int) := by omega
      have j1 : (k : Int) < (r.s.length : Int) := by omega
      have HBX := Lib.hid (HBL.out.trans ((box_below wr (.cells #[.string nm, .int .i64 (s : Int)] 60)).mono HBL.out.size))
      have RX := Lib.hid (heap_alloc_new wr (.cells #[.string nm, .int .i64 (s : Int)] 60))
      rw [hA]
      clear hA
      go_wp2_with fail
      refine (HNM.out _).mono ?_
      rintro e w2 ⟨rfl, hb2⟩
      have k1 := (cell_of_row w2 wr.heap.size 1 _ _ _ ((hb2.block _ (row_lt RX.out)).trans RX.out))
      have HB2 := Lib.hid (HBX.out.trans (hb2.mono HBX.out.size))
      clear hb2 y0 y1
      go_wp2_with (go_at_call 44; refine (in_yes (s : Int) 1 2 _ (by omega) (by omega)).mono ?_; rintro e w' ⟨rfl, rfl⟩)
      exact ⟨⟨k + 1, by omega, by go_num, HB2.out⟩, by simp [intOf]; omega⟩
    · obtain rfl : k = r.s.length := by omega
      obtain ⟨g0, g1⟩ := gvCells HROW.out
      go_wp2_with fail
      clear g0 g1
      go_loopw [40] (fun ii wr => ∃ k : Nat, k ≤ r.c.length ∧ ii = .int .i64 k ∧ Below W0.heap.size W0 wr) (fun ii _ => r.c.length - (intOf ii).toNat)
      case atStart => exact ⟨0, by omega, rfl, HBL.out⟩
      case round =>
        clear HBL HROW HBW
        obtain ⟨k, hk, rfl, hbl⟩ := hrel
        obtain ⟨hrow, hbw⟩ := HK.out wr hbl
        have HBL := Lib.hid hbl
        have HROW := Lib.hid hrow
        have HBW := Lib.hid hbw
        clear hbl hrow hbw
        by_cases hlt : k < r.c.length
        · have hcw := WC.out k hlt
          obtain ⟨b, off, hA, -, hbk, y0, y1, y2, y3, y4⟩ := (HRL.out.below HBW.out).r2.crd hlt
          have hK : r.c.getD k c0 = cg r k := rfl
          rw [hK] at y0 y1 y2 y3 y4
          clear hK
          generalize cg r k = x at *
          have j0 : (0 : Int) ≤ (k : Int) := by omega
          have j1 : (k : Int) < (r.c.length : Int) := by omega
          have HBX := Lib.hid (HBL.out.trans ((box_below wr (.cells (kc x) 29)).mono HBL.out.size))
          obtain ⟨g0, g1⟩ := gvCells ((heap_alloc_old wr (.cells (kc x) 29) (row_lt HROW.out)).trans HROW.out)
          have hf := HFI.out x hcw
          have HF := Lib.hid hf
          simp only [kc, gv] at HBX HF g0 g1
          rw [hA] at g1 HF
          rw [hA]
          clear hA hf hcw
          go_wp2_with fail
          refine (HF.out _).mono ?_
          rintro e w2 ⟨rfl, hb2⟩
          have HB2 := Lib.hid (HBX.out.trans (hb2.mono HBX.out.size))
          clear hb2 y0 y1 y2 y3 y4 g0 g1
          go_wp2_with fail
          exact ⟨⟨k + 1, by omega, by go_num, HB2.out⟩, by simp [intOf]; omega⟩
        · obtain rfl : k = r.c.length := by omega
          obtain ⟨g0, g1⟩ := gvCells HROW.out
          go_wp2_with fail
          clear g0 g1
          go_loopw [52] (fun ii wr => ∃ k : Nat, k ≤ r.c.length ∧ ii = .int .i64 k ∧ (∀ j, j < k → crow r j = false) ∧ Below W0.heap.size W0 wr) (fun ii _ => r.c.length - (intOf ii).toNat)
          case atStart => exact ⟨0, by omega, rfl, fun j h => absurd h (by omega), HBL.out⟩
          case round =>
            clear HBL HROW HBW
            obtain ⟨k, hk, rfl, hno, hbl⟩ := hrel
            obtain ⟨hrow, hbw⟩ := HK.out wr hbl
            have HBL := Lib.hid hbl
            have HROW := Lib.hid hrow
            have HBW := Lib.hid hbw
            have HNO := Lib.hid hno
            clear hbl hrow hbw hno
            by_cases hlt : k < r.c.length
            · have hcw := WC.out k hlt
              obtain ⟨b, off, hA, -, hbk, y0, y1, y2, y3, y4⟩ := (HRL.out.below HBW.out).r2.crd hlt
              have hK : r.c.getD k c0 = cg r k := rfl
              rw [hK] at y0 y1 y2 y3 y4
              clear hK
              have hcr : crow r k = decide (sl r (cg r k).i < hc r (cg r k).i (cg r k).h (cg r k).f) := rfl
              have HCR := Lib.hid hcr
              have HCW := Lib.hid hcw
              clear hcr hcw
              generalize cg r k = x at *
              have j0 : (0 : Int) ≤ (k : Int) := by omega
              have j1 : (k : Int) < (r.c.length : Int) := by omega
              rw [hA]
              have HA := Lib.hid hA
              clear hA
              go_wp2_with fail
              have hA := HA.out
              have hcr := HCR.out
              have hcw := HCW.out
              have hs2 := (WS.out _ hcw.i).2
              have hcl2 : hc r x.i x.h x.f ≤ 24 := Nat.le_trans (cnt_le _ _) n2
              have hxi := hcw.i
              obtain ⟨b5, off5, hA5, -, lb5, -, z1⟩ := (HRL.out.below HBW.out).r1.iss hxi
              have hK : r.s.getD x.i 0 = sl r x.i := rfl
              rw [hK] at z1
              clear hK
              have i0 : (0 : Int) ≤ (x.i : Int) := by omega
              have i1 : (x.i : Int) < (r.s.length : Int) := by omega
              have q0 : decide ((x.i : Int) < 0) = false := decide_eq_false (by omega)
              have q1 : decide ((r.s.length : Int) ≤ (x.i : Int)) = false := decide_eq_false (by omega)
              have HBX := Lib.hid (HBL.out.trans ((box_below wr (.cells (kc x) 29)).mono HBL.out.size))
              have RX := Lib.hid (heap_alloc_new wr (.cells (kc x) 29))
              have hk : ∀ w', Below (wr.alloc (.cells (kc x) 29)).heap.size (wr.alloc (.cells (kc x) 29)) w' → (w'.cell? ⟨w.heap.size, 0, none⟩ = some (.slice (some ⟨b5, off5, none⟩) r.s.length v.c1) ∧ w'.cell? ⟨w.heap.size, 1, none⟩ = some (.slice (some ⟨b, off, none⟩) r.c.length v.c2) ∧ w'.cell? ⟨wr.heap.size, 0, none⟩ = some (.int .i64 (x.i : Int)) ∧ w'.cell? ⟨wr.heap.size, 2, none⟩ = some (.int .i64 (x.h : Int)) ∧ w'.cell? ⟨wr.heap.size, 3, none⟩ = some (.int .i64 (x.f : Int)) ∧ w'.cell? ⟨b5, off5 + x.i * 2 + 1, none⟩ = some (.int .i64 ((sl r x.i : Nat) : Int)) ∧ Below w.heap.size w w' ∧ Below (wr.alloc (.cells (kc x) 29)).heap.size (wr.alloc (.cells (kc x) 29)) w') := fun w' hw => by
                have hbr := (box_below wr (.cells (kc x) 29)).trans (hw.mono (by simp))
                have hbw := HBW.out.trans (hbr.mono HBW.out.size)
                obtain ⟨g0, g1⟩ := gvCells ((hbr.block _ (row_lt HROW.out)).trans HROW.out)
                obtain ⟨u0, u1, u2, u3, u4⟩ := kcCells ((hw.block _ (row_lt RX.out)).trans RX.out)
                rw [hA5] at g0
                rw [hA] at g1
                exact ⟨g0, g1, u0, u2, u3, (hbr.cell (p := ⟨b5, off5 + x.i * 2 + 1, none⟩) lb5).trans z1, hbw, hw⟩
              have HK5 := Lib.hid hk
              have HHD5 := Lib.hid (HHD.out x.i x.h x.f)
              simp only [gv, hA, hA5] at HHD5
              simp only [kc] at HK5 HBX
              clear hk hA hA5 z1 hxi hcw
              have HCRK := Lib.hid hcr
              clear hcr
              generalize sl r x.i = s at *
              generalize hc r x.i x.h x.f = n at *
              by_cases hsn : s < n
              all_goals
                have hdd : decide ((s : Int) < (n : Int)) = decide (s < n) := by
                  by_cases h : s < n
                  · rw [decide_eq_true h, decide_eq_true (by omega)]
                  · rw [decide_eq_false h, decide_eq_false (by omega)]
                first | rw [decide_eq_true hsn] at hdd HCRK | rw [decide_eq_false hsn] at hdd HCRK
                generalize wr.alloc (.cells #[.int .i64 (x.i : Int), .int .u64 (x.p : Int), .int .i64 (x.h : Int), .int .i64 (x.f : Int), .int .i64 (x.u : Int)] 29) = W7 at *
                have hbr : Below W7.heap.size W7 W7 := Below.refl _ _
                have hbd : Below W7.heap.size W7 W7.drew := hbr.drew
                go_region_held3 (fun w' => w'.cell? ⟨w.heap.size, 0, none⟩ = some (.slice (some ⟨b5, off5, none⟩) r.s.length v.c1) ∧ w'.cell? ⟨w.heap.size, 1, none⟩ = some (.slice (some ⟨b, off, none⟩) r.c.length v.c2) ∧ w'.cell? ⟨wr.heap.size, 0, none⟩ = some (.int .i64 (x.i : Int)) ∧ w'.cell? ⟨wr.heap.size, 2, none⟩ = some (.int .i64 (x.h : Int)) ∧ w'.cell? ⟨wr.heap.size, 3, none⟩ = some (.int .i64 (x.f : Int)) ∧ w'.cell? ⟨b5, off5 + x.i * 2 + 1, none⟩ = some (.int .i64 ((s : Nat) : Int)) ∧ Below w.heap.size w w' ∧ Below W7.heap.size W7 w')
                  (first | (with_reducible assumption) | (with_reducible exact HK5.out _ hbr) | (with_reducible exact HK5.out _ hbd) | (go_split_ands; exact HK5.out _ (Below.trans (by with_reducible assumption) (hb2.mono (Below.size (by with_reducible assumption))))))
                  (first
                    | (go_at_call 46; (with_reducible refine (HHD5.out _ ?_).mono ?_); (go_split_ands; with_reducible assumption); rintro e w2 ⟨A, cc, rfl, hrow, hb2⟩; clear hrow))
                go_wp2_with fail
                go_split_ands
                rename_i hfin hfin2
                first
                  | exact ⟨⟨k + 1, by omega, by go_num, (fun j hj => by
                      by_cases e : j = k
                      · rw [e]; exact HCRK.out
                      · exact HNO.out j (by omega)), HBX.out.trans (hfin2.mono HBX.out.size)⟩, by simp [intOf]; omega⟩
                  | (go_ret; exact ⟨by rw [show crowd r = true from (any_iff _ _).2 ⟨k, hlt, HCRK.out⟩]; rfl, hfin⟩)
            · obtain rfl : k = r.c.length := by omega
              go_wp2_with fail
              go_ret
              exact ⟨by rw [show crowd r = false from any_no HNO.out]; rfl, HBW.out⟩

end Go.Proofs.Ytablgpcgfogfoaa.Rg
