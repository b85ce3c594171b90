import Derived.Test.YtahggnlmabdbbaaDoorRtB
namespace Go.Proofs.YtahggnlmabdbbaaDoor.Di
open Go.RowKit
open Go.Proofs.YtahggnlmabdbbaaDoor.Tp
set_option linter.unusedVariables false

theorem zinfoT : (Tryd.prog.info? 101).map (fun i => (i.zero, i.size, i.bytes)) = some (some (.agg #[.int .i64 0, .int .i64 0, .int .i64 0, .int .i64 0, .int .i64 0]), 5, 40) := by kernel_rfl
theorem own_blk {W w6 : World} {B n e s k : Nat} {v : Value} {xs : List Value} {o : Obj} {cs : Array Value} {t : TypeId} {fr : Nat × Nat} (h : W.ownsRow B e s v n xs) (hgr : (W.alloc o).grownBy w6 v.ownBlock) (hk : W.heap[k]? = some (.cells cs t fr)) (hne : t ≠ e) : w6.heap[k]? = some (.cells cs t fr) := by
  refine (hgr.block k (by have := row_lt hk; simp; omega) (fun e1 => ?_)).trans ((heap_alloc_old _ _ (row_lt hk)).trans hk)
  rcases h.2 with ⟨rfl, _⟩ | ⟨g, cap, cur, rfl, _, hh, _⟩
  · simp [Value.ownBlock] at e1
  · have e2 : k = g := by simpa [Value.ownBlock] using e1
    subst e2
    rw [hk] at hh
    injection hh with h1
    injection h1 with h2 h3
    exact hne h3
def StPost (x : Rt) (c : Int) (w : World) (e : Ending) (w' : World) : Prop := ∃ A cc, e = .returned (.slice A (stp x c).length cc) ∧ w'.ownsRow w.heap.size 101 5 (.slice A (stp x c).length cc) (stp x c).length (v5 (stp x c)) ∧ Below w.heap.size w w'
set_option maxRecDepth 100000 in
set_option maxHeartbeats 4000000 in
theorem steps_any (x : Rt) (v : Vr) (c : Int) (w : World) (h : RL w 0 x v) (hx : Rok x) :
    Calls Tryd.prog 58 #[.agg (gr x v), .int .i64 c] w (StPost x c w) := by
  have HD := Lib.hid h
  have hlg := hx.lg
  have hls := hx.ls
  have hlm := hx.lm
  have HLM := Lib.hid (fun k => stM_len x c k)
  have HLS := Lib.hid (fun i k => stS_len x c i k)
  have HLG := Lib.hid (stG_len x c hlm hls)
  have HB0 := Lib.hid (box_below w (.cells (gr x v) 27))
  have HR0 := Lib.hid (heap_alloc_new w (.cells (gr x v) 27))
  have HM0 := Lib.hid (show stM x c 0 = [] from rfl)
  have HMS := Lib.hid (show ∀ k, stM x c (k + 1) = if (e2 x.m k).a = c then stM x c k ++ [⟨lkM k, (e2 x.m k).b⟩] else stM x c k from fun k => rfl)
  have HS0 := Lib.hid (show ∀ i, stS x c i 0 = [] from fun i => rfl)
  have HSS := Lib.hid (show ∀ i k, stS x c i (k + 1) = if (e3 x.g i).a = c ∧ (e3 x.g i).b = (e2 x.s k).a then stS x c i k ++ [⟨lkS i k, (e2 x.s k).b⟩] else stS x c i k from fun i k => rfl)
  have HG0 := Lib.hid (show stG x c 0 = stM x c x.m.length from rfl)
  have HGS := Lib.hid (show ∀ i, stG x c (i + 1) = stG x c i ++ stS x c i x.s.length from fun i => rfl)
  unfold StPost
  have HP := Lib.hid (show stp x c = stG x c x.g.length from rfl)
  rw [HP.out]
  obtain ⟨c0, c1, c2, c3, c4⟩ := grCells HR0.out
  obtain ⟨i0, hi1, hz0, hz1, hz2⟩ := info_parts zinfoT
  have HI := Lib.hid hi1
  have HI0 := Lib.hid hz0
  have HI1 := Lib.hid hz1
  have HI2 := Lib.hid hz2
  clear hi1 hz0 hz1 hz2 h hx HP
  generalize stM x c = SM at *
  generalize stS x c = SS at *
  generalize stG x c = SG at *
  go_enter Tryd.func58, Tryd.ntmps58
  go_wp2_with fail
  go_loopw [5, 15] (fun ov ii wr => ∃ k : Nat, k ≤ x.m.length ∧ ii = .int .i64 (k : Int) ∧ wr.ownsRow (w.heap.size + 1) 101 5 ov (SM k).length (v5 (SM k)) ∧ Below w.heap.size w wr ∧ wr.heap[w.heap.size]? = some (.cells (gr x v) 27 (0, 0))) (fun _ ii _ => x.m.length - (intOf ii).toNat)
  case atStart => exact ⟨0, by omega, rfl, by rw [HM0.out]; exact own_nil _ _ _ _, HB0.out, HR0.out⟩
  case round =>
    obtain ⟨k, hk, rfl, hown, hbl, hbox⟩ := hrel
    have HO := Lib.hid hown
    have HBL := Lib.hid hbl
    have HBX := Lib.hid hbox
    clear hown hbl hbox c0 c1 c2 c3 c4
    by_cases hlt : k < x.m.length
    · obtain ⟨b, off, hA, -, hbk, y0, y1⟩ := (HD.out.below HBL.out).r3.t2 hlt
      have HK := Lib.hid (HMS.out k)
      generalize e2 x.m k = y at *
      obtain ⟨ya, yb⟩ := y
      simp only at y0 y1 HK
      have j0 : (0 : Int) ≤ (k : Int) := by omega
      have j1 : (k : Int) < (x.m.length : Int) := by omega
      rw [hA]
      have hbx := box_below wr (.cells #[.int .i64 ya, .int .i64 yb] 62)
      have HBX2 := Lib.hid (HBL.out.trans (hbx.mono HBL.out.size))
      have XN := Lib.hid (heap_alloc_new wr (.cells #[.int .i64 ya, .int .i64 yb] 62))
      have HX2 := Lib.hid ((hbx.block _ (row_lt HBX.out)).trans HBX.out)
      have HO2 := Lib.hid (own_below HO.out hbx)
      obtain ⟨n0, n1⟩ := c2Cells (x := ⟨ya, yb⟩) XN.out
      simp only at n0 n1
      have hsz := row_lt HBX.out
      have hll := HLM.out k
      clear hbx
      by_cases t1 : ya = c
      · subst t1
        have d0 : (ya == ya) = true := by simp
        have HKK := Lib.hid (show v5 (SM (k + 1)) = v5 (SM k) ++ [.int .i64 2, .int .i64 (-1), .int .i64 (-1), .int .i64 (k : Int), .int .i64 yb] ∧ (SM (k + 1)).length = (SM k).length + 1 by
          rw [HK.out, if_pos rfl, v5_snoc]
          exact ⟨rfl, by simp⟩)
        go_wp2_with (at_builtin; refine wpList_append_own _ rfl (.tmp 24) (.tmp 30) 96 rfl (w.heap.size + 1) 101 i0 (.agg #[.int .i64 0, .int .i64 0, .int .i64 0, .int .i64 0, .int .i64 0]) 5 40 Tryd.underlying96 HI.out HI0.out HI1.out HI2.out rfl (by decide) _ (SM k).length (v5 (SM k)) rfl (HO2.out.alloc _) ⟨wr.heap.size + 1, 0, none⟩ 1 1 [.int .i64 2, .int .i64 (-1), .int .i64 (-1), .int .i64 (k : Int), .int .i64 yb] rfl rfl (World.news_of_block (heap_alloc2_new wr _ _)) (by simp [Value.oneCell']) (by unfold maxLen; omega) (by omega) (by simp; omega) ?_; intro v' w6 hown6 hgr _; have O6 := Lib.hid hown6; have B6 := Lib.hid (far_below HBX2.out HO2.out hgr (by omega)); have X6 := Lib.hid ((far_block HO2.out hgr w.heap.size (by omega) (by simp; omega)).trans HX2.out); clear hown6 hgr)
        exact ⟨⟨k + 1, by omega, by go_num, by rw [HKK.out.1, HKK.out.2]; exact O6.out, B6.out, X6.out⟩, by simp [intOf]; omega⟩
      · have d0 : (ya == c) = false := beq_eq_false_iff_ne.2 t1
        have HKK := Lib.hid (show SM (k + 1) = SM k by rw [HK.out, if_neg t1])
        clear t1
        go_wp2_with fail
        exact ⟨⟨k + 1, by omega, by go_num, by rw [HKK.out]; exact HO2.out, HBX2.out, HX2.out⟩, by simp [intOf]; omega⟩
    · obtain rfl : k = x.m.length := by omega
      obtain ⟨c0, c1, c2, c3, c4⟩ := grCells HBX.out
      go_wp2_with fail
      go_loopw [5, 36] (fun ov ii wr => ∃ k : Nat, k ≤ x.g.length ∧ ii = .int .i64 (k : Int) ∧ wr.ownsRow (w.heap.size + 1) 101 5 ov (SG k).length (v5 (SG k)) ∧ Below w.heap.size w wr ∧ wr.heap[w.heap.size]? = some (.cells (gr x v) 27 (0, 0))) (fun _ ii _ => x.g.length - (intOf ii).toNat)
      case atStart => exact ⟨0, by omega, rfl, by rw [HG0.out]; exact HO.out, HBL.out, HBX.out⟩
      case round =>
        clear HO HBL HBX c0 c1 c2 c3 c4
        obtain ⟨i, hk, rfl, hown, hbl, hbox⟩ := hrel
        have HO := Lib.hid hown
        have HBL := Lib.hid hbl
        have HBX := Lib.hid hbox
        have hsz := row_lt hbox
        clear hown hbl hbox
        by_cases hlt : i < x.g.length
        · obtain ⟨b, off, hA, -, hbk, y0, y1, y2⟩ := (HD.out.below HBL.out).r1.t3 hlt
          have HK := Lib.hid (HGS.out i)
          have HSS1 := Lib.hid (HSS.out i)
          have HSI := Lib.hid (HS0.out i)
          have HLI := Lib.hid (HLS.out i)
          have hll := HLG.out i
          generalize e3 x.g i = y at *
          obtain ⟨ya, yb, yc⟩ := y
          simp only at y0 y1 y2 HSS1
          generalize SS i = SJ at *
          have j0 : (0 : Int) ≤ (i : Int) := by omega
          have j1 : (i : Int) < (x.g.length : Int) := by omega
          rw [hA]
          rename World => wq
          have hbx := box_below wq (.cells #[.int .i64 ya, .int .i64 yb, .int .i64 yc] 54)
          have HBX2 := Lib.hid (HBL.out.trans (hbx.mono HBL.out.size))
          have XN := Lib.hid (heap_alloc_new wq (.cells #[.int .i64 ya, .int .i64 yb, .int .i64 yc] 54))
          have HX2 := Lib.hid ((hbx.block _ (row_lt HBX.out)).trans HBX.out)
          have HO2 := Lib.hid (own_below HO.out hbx)
          obtain ⟨c0, c1, c2, c3, c4⟩ := grCells HX2.out
          clear hbx
          go_wp2_with fail
          have hG : w.heap.size < wq.heap.size := hsz
          generalize wq.heap.size = G at *
          generalize wq.alloc (.cells #[.int .i64 ya, .int .i64 yb, .int .i64 yc] 54) = W2 at *
          go_loopw [5, 44] (fun ov ii wr => ∃ k : Nat, k ≤ x.s.length ∧ ii = .int .i64 (k : Int) ∧ wr.ownsRow (w.heap.size + 1) 101 5 ov (SG i ++ SJ k).length (v5 (SG i ++ SJ k)) ∧ Below w.heap.size w wr ∧ wr.heap[w.heap.size]? = some (.cells (gr x v) 27 (0, 0)) ∧ wr.heap[G]? = some (.cells #[.int .i64 ya, .int .i64 yb, .int .i64 yc] 54 (0, 0))) (fun _ ii _ => x.s.length - (intOf ii).toNat)
          case atStart => exact ⟨0, by omega, rfl, by rw [HSI.out, List.append_nil]; exact HO2.out, HBX2.out, HX2.out, XN.out⟩
          case round =>
            clear HO2 HBX2 HX2 XN c0 c1 c2 c3 c4
            obtain ⟨k, hk2, rfl, hown, hbl, hbox, hgb⟩ := hrel
            have HO2 := Lib.hid hown
            have HBL2 := Lib.hid hbl
            have HBX2 := Lib.hid hbox
            have HGB2 := Lib.hid hgb
            rename World => wz
            clear hown hbl hbox hgb
            by_cases hlt2 : k < x.s.length
            · obtain ⟨b2, off2, hA2, -, hbk2, z0, z1⟩ := (HD.out.below HBL2.out).r2.t2 hlt2
              have HKS := Lib.hid (HSS1.out k)
              have hll2 := HLI.out k
              generalize e2 x.s k = z at *
              obtain ⟨za, zb⟩ := z
              simp only at z0 z1 HKS
              have k0 : (0 : Int) ≤ (k : Int) := by omega
              have k1 : (k : Int) < (x.s.length : Int) := by omega
              rw [hA2]
              have hbx := box_below wz (.cells #[.int .i64 za, .int .i64 zb] 60)
              have HBX3 := Lib.hid (HBL2.out.trans (hbx.mono HBL2.out.size))
              have XN := Lib.hid (heap_alloc_new wz (.cells #[.int .i64 za, .int .i64 zb] 60))
              have HX3 := Lib.hid ((hbx.block _ (row_lt HBX2.out)).trans HBX2.out)
              have HG3 := Lib.hid ((hbx.block _ (row_lt HGB2.out)).trans HGB2.out)
              have HO3 := Lib.hid (own_below HO2.out hbx)
              obtain ⟨n0, n1⟩ := c2Cells (x := ⟨za, zb⟩) XN.out
              obtain ⟨g0, g1, g2⟩ := c3Cells (x := ⟨ya, yb, yc⟩) HG3.out
              have hsz3 := row_lt HBX2.out
              have hszG := row_lt HGB2.out
              clear hbx
              by_cases t1 : ya = c
              · have d0 : (ya == c) = true := by rw [t1]; simp
                by_cases t2 : yb = za
                · have d2 : (yb == za) = true := by rw [t2]; simp
                  have HKK := Lib.hid (show v5 (SG i ++ SJ (k + 1)) = v5 (SG i ++ SJ k) ++ [.int .i64 1, .int .i64 (i : Int), .int .i64 (k : Int), .int .i64 (-1), .int .i64 zb] ∧ (SG i ++ SJ (k + 1)).length = (SG i ++ SJ k).length + 1 by
                    rw [HKS.out, if_pos ⟨t1, t2⟩, ← List.append_assoc, v5_snoc]
                    exact ⟨rfl, by simp; omega⟩)
                  have hln : (SG i ++ SJ k).length ≤ 20200 := by rw [List.length_append]; omega
                  clear t1 t2
                  go_wp2_with (at_builtin; refine wpList_append_own _ rfl (.tmp 60) (.tmp 67) 96 rfl (w.heap.size + 1) 101 i0 (.agg #[.int .i64 0, .int .i64 0, .int .i64 0, .int .i64 0, .int .i64 0]) 5 40 Tryd.underlying96 HI.out HI0.out HI1.out HI2.out rfl (by decide) _ (SG i ++ SJ k).length (v5 (SG i ++ SJ k)) rfl (HO3.out.alloc _) ⟨wz.heap.size + 1, 0, none⟩ 1 1 [.int .i64 1, .int .i64 (i : Int), .int .i64 (k : Int), .int .i64 (-1), .int .i64 zb] rfl rfl (World.news_of_block (heap_alloc2_new wz _ _)) (by simp [Value.oneCell']) (by unfold maxLen; omega) (by omega) (by simp; omega) ?_; intro v' w6 hown6 hgr _; have O6 := Lib.hid hown6; have B6 := Lib.hid (far_below HBX3.out HO3.out hgr (by omega)); have X6 := Lib.hid ((far_block HO3.out hgr w.heap.size (by omega) (by simp; omega)).trans HX3.out); have G6 := Lib.hid ((own_blk HO3.out hgr HG3.out (by decide))); clear hown6 hgr)
                  exact ⟨⟨k + 1, by omega, by go_num, by rw [HKK.out.1, HKK.out.2]; exact O6.out, B6.out, X6.out, G6.out⟩, by simp [intOf]; omega⟩
                · have d2 : (yb == za) = false := beq_eq_false_iff_ne.2 t2
                  have HKK := Lib.hid (show SJ (k + 1) = SJ k by rw [HKS.out, if_neg (fun h => t2 h.2)])
                  clear t1 t2
                  go_wp2_with fail
                  exact ⟨⟨k + 1, by omega, by go_num, by rw [HKK.out]; exact HO3.out, HBX3.out, HX3.out, HG3.out⟩, by simp [intOf]; omega⟩
              · have d0 : (ya == c) = false := beq_eq_false_iff_ne.2 t1
                have HKK := Lib.hid (show SJ (k + 1) = SJ k by rw [HKS.out, if_neg (fun h => t1 h.1)])
                clear t1
                go_wp2_with fail
                exact ⟨⟨k + 1, by omega, by go_num, by rw [HKK.out]; exact HO3.out, HBX3.out, HX3.out, HG3.out⟩, by simp [intOf]; omega⟩
            · obtain rfl : k = x.s.length := by omega
              go_wp2_with fail
              exact ⟨⟨i + 1, by omega, by go_num, by rw [HK.out]; exact HO2.out, HBL2.out, HBX2.out⟩, by simp [intOf]; omega⟩
        · obtain rfl : i = x.g.length := by omega
          obtain ⟨A, cc, rfl⟩ := own_form HO.out
          go_wp2_with fail
          go_ret
          exact ⟨A, cc, rfl, own_base HO.out (by omega), HBL.out⟩

end Go.Proofs.YtahggnlmabdbbaaDoor.Di
