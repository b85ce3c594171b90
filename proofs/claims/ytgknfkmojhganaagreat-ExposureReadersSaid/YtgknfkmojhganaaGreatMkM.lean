import Derived.Test.YtgknfkmojhganaaGreatAcI

namespace Go.Proofs.YtgknfkmojhganaaGreat.Di
open Go.RowKit
open Go.Proofs.YtgknfkmojhganaaGreat.Tp
set_option linter.unusedVariables false

/-- The made estate, and how long its row of events may grow. -/
def EsPostC (T : Nat) (w : World) (e : Ending) (w' : World) : Prop := ∃ (a : Es) (v : Ve), e = .returned (.agg (ge a v)) ∧ MkE a ∧ EL w' w.heap.size a v ∧ w.grownBy w' (some T) ∧ TapeOk w' T ∧ a.e.length ≤ v.c
theorem own_cap {w : World} {base e s n c : Nat} {A : Option Addr} {xs : List Value} (h : w.ownsRow base e s (.slice A n c) n xs) : n ≤ c := by
  rcases h.2 with ⟨_, e⟩ | ⟨g, cap, cur, e1, hg, hh, hnc, _⟩
  · omega
  · cases e1; exact hnc
set_option maxRecDepth 100000 in
set_option maxHeartbeats 8000000 in
theorem estate_cap (T : Nat) (d : Dy) (v : Vd) (w : World) (h : TapeOk w T) (hT : T < w.heap.size) (h1 : 1 ≤ d.k.length) (h2 : d.k.length ≤ 7) :
    Calls Tryz.prog 11 #[.pointer (some ⟨T, 0, none⟩), .agg (gd d v)] w (EsPostC T w) := by
  have hb2 := (box_below w (.cells (gd d v) 25)).trans ((box_below (w.alloc (.cells (gd d v) 25)) (.cells zE 28)).mono (by simp))
  have HT := Lib.hid (tape_below h hb2)
  have HG := Lib.hid (gb_row (gb_of_below hb2) : w.grownBy _ (some T))
  have R0 := Lib.hid ((heap_alloc_old (w.alloc (.cells (gd d v) 25)) (.cells zE 28) (by simp)).trans (heap_alloc_new w (.cells (gd d v) 25)))
  have r1 := heap_alloc_new (w.alloc (.cells (gd d v) 25)) (.cells zE 28)
  rw [show (w.alloc (.cells (gd d v) 25)).heap.size = w.heap.size + 1 by simp] at r1
  have R1 := Lib.hid r1
  clear h hb2 r1
  obtain ⟨j0, hj1, hy0, hy1, hy2⟩ := info_parts zinfoAc
  have HJ := Lib.hid hj1
  have HJ0 := Lib.hid hy0
  have HJ1 := Lib.hid hy1
  have HJ2 := Lib.hid hy2
  clear hj1 hy0 hy1 hy2
  go_enter Tryz.func11, Tryz.ntmps11
  go_wp2_with fail
  refine (between_any T 1 4 _ HT.out (by omega) (by omega) (by omega) (by omega)).mono ?_
  rintro e w1 ⟨n, hn0, hn1, rfl, hg1, ht1⟩
  have hg1' := gb_trans HG.out hg1
  have S0 := Lib.hid ((hg1.block _ (row_lt R0.out) (by simp; omega)).trans R0.out)
  have S1 := Lib.hid ((hg1.block _ (row_lt R1.out) (by simp; omega)).trans R1.out)
  have HG1 := Lib.hid hg1'
  have HT1 := Lib.hid ht1
  clear hg1 ht1 hg1' HT HG R0 R1
  go_wp2_with fail
  have hbq := box_below w1 (.cells #[.int .i64 n, .slice none 0 0] 28)
  have HT1q := Lib.hid (tape_below HT1.out hbq)
  have HQ := Lib.hid (show (w1.alloc (.cells #[.int .i64 n, .slice none 0 0] 28)).heap[w1.heap.size]? = some (.cells (ge ⟨n, []⟩ ⟨none, 0⟩) 28 (0, 0)) from heap_alloc_new w1 _)
  have Q0 := Lib.hid ((hbq.block _ (row_lt S0.out)).trans S0.out)
  have Q1 := Lib.hid ((hbq.block _ (row_lt S1.out)).trans S1.out)
  have HGq := Lib.hid (gb_alloc2 HG1.out (.cells #[.int .i64 n, .slice none 0 0] 28))
  have hsz1 : w.heap.size + 2 ≤ w1.heap.size := by have := row_lt S1.out; omega
  clear hbq HT1 HG1 S0 S1
  generalize w1.alloc (.cells #[.int .i64 n, .slice none 0 0] 28) = wq at *
  generalize w1.heap.size = Q at *
  have hTq : T < wq.heap.size := by have := HGq.out.size; omega
  refine (next_any T 16 _ HT1q.out (by omega) (by omega)).mono ?_
  rintro e w2 ⟨zm, zm0, zm1, rfl, hg2, ht2⟩
  obtain ⟨m, rfl⟩ : ∃ k : Nat, zm = k := ⟨zm.toNat, by omega⟩
  have hTw2 : T < w2.heap.size := by have := hg2.size; omega
  have HCK := Lib.hid (clock_any T m w2 ht2 hTw2 (by omega))
  have HQ2 := Lib.hid ((hg2.block _ (row_lt HQ.out) (by simp; omega)).trans HQ.out)
  have Q02 := Lib.hid ((hg2.block _ (row_lt Q0.out) (by simp; omega)).trans Q0.out)
  have Q12 := Lib.hid ((hg2.block _ (row_lt Q1.out) (by simp; omega)).trans Q1.out)
  have HG2 := Lib.hid (gb_trans HGq.out hg2)
  clear hg2 ht2 HQ Q0 Q1 HGq HT1q
  go_wp2_with fail
  refine HCK.out.mono ?_
  rintro e w3 ⟨cl, Acl, cc, rfl, hcll, hasc, hcown, hg3, ht3⟩
  have HQ3 := Lib.hid ((hg3.block _ (row_lt HQ2.out) (by simp; omega)).trans HQ2.out)
  have Q03 := Lib.hid ((hg3.block _ (row_lt Q02.out) (by simp; omega)).trans Q02.out)
  have Q13 := Lib.hid ((hg3.block _ (row_lt Q12.out) (by simp; omega)).trans Q12.out)
  have HG3 := Lib.hid (gb_trans HG2.out hg3)
  have HOC := Lib.hid (own_base hcown (show w.heap.size ≤ w2.heap.size from HG2.out.size))
  have HT3 := Lib.hid ht3
  have HCL := Lib.hid hcll
  have HAS := Lib.hid hasc
  clear hg3 ht3 hcll hasc hcown HCK HQ2 Q02 Q12 HG2
  go_wp2_with fail
  go_loopw [17] (fun jj wr => ∃ j : Nat, j ≤ m ∧ jj = .int .i64 (j : Int) ∧ ERel T Q n w d v cl Acl cc m j wr) (fun jj _ => m - (intOf jj).toNat)
  case atStart => exact ⟨0, by omega, rfl, [], none, 0, by simp, Eok.nil hn0 (by omega), fun i hi => absurd hi (by simp), HQ3.out, own_nil _ _ _ _, HOC.out, Q03.out, Q13.out, HG3.out, HT3.out⟩
  case round =>
    obtain ⟨j, hj, rfl, E, Ae, ce, hlj, hok, hlt', hq, hown, hoc, hz, hz1, hgb, htp⟩ := hrel
    have HOK := Lib.hid hok
    have HLT := Lib.hid hlt'
    have HO := Lib.hid hown
    have HC := Lib.hid hoc
    have HZ := Lib.hid hz
    have HZ1 := Lib.hid hz1
    have HQR := Lib.hid hq
    have HGB := Lib.hid hgb
    have HTP := Lib.hid htp
    have hszr := hgb.size
    have lq := row_lt hq
    obtain ⟨g0, g1⟩ := geCells hq
    clear HOC HQ3 Q03 Q13 HG3 HT3 hok hlt'
    by_cases hlt : j < m
    · obtain ⟨b, off, e6, -, -, y0⟩ := (row_of_own hoc).int hlt
      have hAc : Acl = some ⟨b, off, none⟩ := e6
      subst hAc
      obtain ⟨tm, htm⟩ : ∃ t, cl.getD j 0 = t := ⟨_, rfl⟩
      rw [htm] at y0
      have HTM := Lib.hid htm
      have i0' : (0 : Int) ≤ (j : Int) := by omega
      have i1' : (j : Int) < (m : Int) := by omega
      have hTr : T < wr.heap.size := by omega
      have HNX := Lib.hid (fun (w' : World) (h : TapeOk w' T) => next_any T n w' h (by omega) (by omega))
      have HPK := Lib.hid (fun (w' : World) (G : Nat) (h : TapeOk w' T) (hr : Row w' wr.heap.size 1 (some ⟨G, 0, none⟩) 10 (iv ten)) => pick_any T wr.heap.size 10 10 (some ⟨G, 0, none⟩) ten w' h hr (by omega) (by omega) (by omega))
      clear hown hoc hz hz1 hq hgb htp htm
      go_upto_region 5 with fail
      go_cut [8] from 21 to 29 (fun s8 wx => ∃ (k : Nat) (p : Nat) (G : Nat), s8 = .pointer (some ⟨G, 0, none⟩) ∧ (1 ≤ k ∧ k ≤ 7) ∧ (p : Int) < n ∧ wr.heap.size ≤ G ∧ wx.heap[G]? = some (.cells #[.int .i64 (tm : Int), .int .i64 (k : Int), .int .i64 (p : Int), .int .i64 0, .int .i64 0, .int .i64 0, .int .i64 0] 76 (0, 0)) ∧ wr.grownBy wx (some T) ∧ TapeOk wx T)
      case first =>
        -- CUT
        have LQ := Lib.hid lq
        go_region_law (first
          | (go_simp; go_at_call 39; (with_reducible refine (HPK.out _ _ ?_ ?_).mono ?_); (first | exact TN.out | exact tape_new2 TN.out _ | exact tape_new2 (tape_new2 TN.out _) _); (first | exact lits_lA (heap_alloc_new wn lA) GN.out.size | exact lits_lA (at1 wn lA zA) GN.out.size | exact lits_lA (at2 wn zA lA) (Nat.le_succ_of_le GN.out.size) | exact lits_lA LN.out LNb.out | exact lits_lA ((heap_alloc_old wn zA (row_lt LN.out)).trans LN.out) LNb.out); (rintro e wl ⟨z, hz4, rfl, hg0, ht0⟩; obtain ⟨k, hk⟩ : ∃ k, ten.getD z 0 = k := ⟨_, rfl⟩; rw [hk]; have HK7 := Lib.hid (show 1 ≤ k ∧ k ≤ 7 from hk ▸ ten_rng z hz4); have GL := Lib.hid (show wr.grownBy wl (some T) from (by first | exact gb_trans GN.out ⟨hg0.os, hg0.tape, hg0.output, hg0.size, hg0.block⟩ | exact gb_trans (gb_alloc2 GN.out _) ⟨hg0.os, hg0.tape, hg0.output, hg0.size, hg0.block⟩ | exact gb_trans (gb_alloc2 (gb_alloc2 GN.out _) _) ⟨hg0.os, hg0.tape, hg0.output, hg0.size, hg0.block⟩)); have TL := Lib.hid ht0; (first | (have ZL := Lib.hid (show wl.heap[wn.heap.size]? = some zA from (by first | exact (hg0.block (wn.heap.size) (by first | (simp; done) | (simp; omega)) (fun e => by injection e; omega)).trans (heap_alloc_new wn zA) | exact (hg0.block (wn.heap.size) (by first | (simp; done) | (simp; omega)) (fun e => by injection e; omega)).trans (at1 wn zA lA)))) | (have ZL := Lib.hid (show wl.heap[wn.heap.size + 1]? = some zA from (hg0.block (wn.heap.size + 1) (by first | (simp; done) | (simp; omega)) (fun e => by injection e; omega)).trans (at2 wn lA zA))) | (have ZL := Lib.hid ((hg0.block _ (row_lt ZN.out) (fun e => by injection e; have := ZNb.out; omega)).trans ZN.out)) | (have ZL := Lib.hid ((hg0.block _ (Nat.lt_of_lt_of_le (row_lt ZN.out) (by simp)) (fun e => by injection e; have := ZNb.out; omega)).trans ((heap_alloc_old _ _ (row_lt ZN.out)).trans ZN.out))) | skip); (first | (have zz := xc7 ZL.out; obtain ⟨⟨x0, x1, x2, x3, x4, x5, x6⟩, f0, f1, f2, f3, f4, f5, f6⟩ := zz) | skip); (first | clear hg0 | skip); (first | clear ht0 | skip); (first | clear hk | skip); (first | clear hz4 | skip)))
          | (go_simp; go_at_call 12; (with_reducible refine (HNX.out _ ?_).mono ?_); (first | exact TP.out | exact tape_new2 TP.out _ | exact tape_new2 (tape_new2 TP.out _) _); (rintro e wl ⟨zp, zp0, zp1, rfl, hg0, ht0⟩; obtain ⟨p, rfl⟩ : ∃ p : Nat, zp = p := ⟨zp.toNat, by omega⟩; have HPL := Lib.hid (show (p : Int) < n by omega); have GL := Lib.hid (show wr.grownBy wl (some T) from (by first | exact gb_trans GP.out ⟨hg0.os, hg0.tape, hg0.output, hg0.size, hg0.block⟩ | exact gb_trans (gb_alloc2 GP.out _) ⟨hg0.os, hg0.tape, hg0.output, hg0.size, hg0.block⟩ | exact gb_trans (gb_alloc2 (gb_alloc2 GP.out _) _) ⟨hg0.os, hg0.tape, hg0.output, hg0.size, hg0.block⟩)); have TL := Lib.hid ht0; (first | (have ZL := Lib.hid (show wl.heap[wp.heap.size]? = some zA from (by first | exact (hg0.block (wp.heap.size) (by first | (simp; done) | (simp; omega)) (fun e => by injection e; omega)).trans (heap_alloc_new wp zA) | exact (hg0.block (wp.heap.size) (by first | (simp; done) | (simp; omega)) (fun e => by injection e; omega)).trans (at1 wp zA lA)))) | (have ZL := Lib.hid (show wl.heap[wp.heap.size + 1]? = some zA from (hg0.block (wp.heap.size + 1) (by first | (simp; done) | (simp; omega)) (fun e => by injection e; omega)).trans (at2 wp lA zA))) | (have ZL := Lib.hid ((hg0.block _ (row_lt ZP.out) (fun e => by injection e; have := ZPb.out; omega)).trans ZP.out)) | (have ZL := Lib.hid ((hg0.block _ (Nat.lt_of_lt_of_le (row_lt ZP.out) (by simp)) (fun e => by injection e; have := ZPb.out; omega)).trans ((heap_alloc_old _ _ (row_lt ZP.out)).trans ZP.out))) | skip); (first | (have zz := xc7 ZL.out; obtain ⟨⟨x0, x1, x2, x3, x4, x5, x6⟩, f0, f1, f2, f3, f4, f5, f6⟩ := zz) | skip); (first | clear hg0 | skip); (first | clear ht0 | skip); (first | clear zp0 zp1 | skip)))
          | (go_simp; go_at_call 39; (with_reducible refine (HPK.out _ _ ?_ ?_).mono ?_); (first | exact HTP.out | exact tape_new2 HTP.out _ | exact tape_new2 (tape_new2 HTP.out _) _); (first | exact lits_lA (heap_alloc_new wr lA) (Nat.le_refl _) | exact lits_lA (at1 wr lA zA) (Nat.le_refl _) | exact lits_lA (at2 wr zA lA) (Nat.le_succ _)); (rintro e wp ⟨z, hz4, rfl, hg0, ht0⟩; obtain ⟨k, hk⟩ : ∃ k, ten.getD z 0 = k := ⟨_, rfl⟩; rw [hk]; have HK7 := Lib.hid (show 1 ≤ k ∧ k ≤ 7 from hk ▸ ten_rng z hz4); have GP := Lib.hid (show wr.grownBy wp (some T) from (by first | exact ⟨hg0.os, hg0.tape, hg0.output, hg0.size, hg0.block⟩ | exact gb_trans (gb_row (gb_of_below (box_below wr _))) ⟨hg0.os, hg0.tape, hg0.output, hg0.size, hg0.block⟩ | exact gb_trans (gb_alloc2 (gb_row (gb_of_below (box_below wr _))) _) ⟨hg0.os, hg0.tape, hg0.output, hg0.size, hg0.block⟩)); have TP := Lib.hid ht0; have hTp : T < wp.heap.size := Nat.lt_of_lt_of_le hTr GP.out.size; have lqp : Q < wp.heap.size := Nat.lt_of_lt_of_le lq GP.out.size; have u0 : wp.cell? ⟨Q, 0, none⟩ = some (.int .i64 n) := (geCells ((GP.out.block Q lq (fun e => by injection e; omega)).trans HQR.out)).1; (first | (have ZP := Lib.hid (show wp.heap[wr.heap.size]? = some zA from (by first | exact (hg0.block (wr.heap.size) (by first | (simp; done) | (simp; omega)) (fun e => by injection e; omega)).trans (heap_alloc_new wr zA) | exact (hg0.block (wr.heap.size) (by first | (simp; done) | (simp; omega)) (fun e => by injection e; omega)).trans (at1 wr zA lA))); have ZPb := Lib.hid (Nat.le_refl wr.heap.size)) | (have ZP := Lib.hid (show wp.heap[wr.heap.size + 1]? = some zA from (hg0.block (wr.heap.size + 1) (by first | (simp; done) | (simp; omega)) (fun e => by injection e; omega)).trans (at2 wr lA zA)); have ZPb := Lib.hid (Nat.le_succ wr.heap.size)) | skip); (first | (have zz := xc7 ZP.out; obtain ⟨⟨x0, x1, x2, x3, x4, x5, x6⟩, f0, f1, f2, f3, f4, f5, f6⟩ := zz) | skip); (first | clear hg0 | skip); (first | clear ht0 | skip); (first | clear hk | skip); (first | clear hz4 | skip)))
          | (go_simp; go_at_call 12; (with_reducible refine (HNX.out _ ?_).mono ?_); (first | exact HTP.out | exact tape_new2 HTP.out _ | exact tape_new2 (tape_new2 HTP.out _) _); (rintro e wn ⟨zp, zp0, zp1, rfl, hg0, ht0⟩; obtain ⟨p, rfl⟩ : ∃ p : Nat, zp = p := ⟨zp.toNat, by omega⟩; have HPL := Lib.hid (show (p : Int) < n by omega); have GN := Lib.hid (show wr.grownBy wn (some T) from (by first | exact ⟨hg0.os, hg0.tape, hg0.output, hg0.size, hg0.block⟩ | exact gb_trans (gb_row (gb_of_below (box_below wr _))) ⟨hg0.os, hg0.tape, hg0.output, hg0.size, hg0.block⟩ | exact gb_trans (gb_alloc2 (gb_row (gb_of_below (box_below wr _))) _) ⟨hg0.os, hg0.tape, hg0.output, hg0.size, hg0.block⟩)); have TN := Lib.hid ht0; have hTn : T < wn.heap.size := Nat.lt_of_lt_of_le hTr GN.out.size; have lqn : Q < wn.heap.size := Nat.lt_of_lt_of_le lq GN.out.size; have u0 : wn.cell? ⟨Q, 0, none⟩ = some (.int .i64 n) := (geCells ((GN.out.block Q lq (fun e => by injection e; omega)).trans HQR.out)).1; (first | (have ZN := Lib.hid (show wn.heap[wr.heap.size]? = some zA from (by first | exact (hg0.block (wr.heap.size) (by first | (simp; done) | (simp; omega)) (fun e => by injection e; omega)).trans (heap_alloc_new wr zA) | exact (hg0.block (wr.heap.size) (by first | (simp; done) | (simp; omega)) (fun e => by injection e; omega)).trans (at1 wr zA lA))); have ZNb := Lib.hid (Nat.le_refl wr.heap.size)) | (have ZN := Lib.hid (show wn.heap[wr.heap.size + 1]? = some zA from (hg0.block (wr.heap.size + 1) (by first | (simp; done) | (simp; omega)) (fun e => by injection e; omega)).trans (at2 wr lA zA)); have ZNb := Lib.hid (Nat.le_succ wr.heap.size)) | skip); (first | (have LN := Lib.hid (show wn.heap[wr.heap.size]? = some lA from (by first | exact (hg0.block (wr.heap.size) (by first | (simp; done) | (simp; omega)) (fun e => by injection e; omega)).trans (heap_alloc_new wr lA) | exact (hg0.block (wr.heap.size) (by first | (simp; done) | (simp; omega)) (fun e => by injection e; omega)).trans (at1 wr lA zA))); have LNb := Lib.hid (Nat.le_refl wr.heap.size)) | (have LN := Lib.hid (show wn.heap[wr.heap.size + 1]? = some lA from (hg0.block (wr.heap.size + 1) (by first | (simp; done) | (simp; omega)) (fun e => by injection e; omega)).trans (at2 wr zA lA)); have LNb := Lib.hid (Nat.le_succ wr.heap.size)) | skip); (first | (have zz := xc7 ZN.out; obtain ⟨⟨x0, x1, x2, x3, x4, x5, x6⟩, f0, f1, f2, f3, f4, f5, f6⟩ := zz) | skip); (first | clear hg0 | skip); (first | clear ht0 | skip); (first | clear zp0 zp1 | skip))))
        all_goals
          go_wp2_with fail
          go_meet
          case rel =>
            first
              | exact ⟨k, p, _, rfl, HK7.out, HPL.out, GL.out.size, heap_alloc_new wl _, gb_alloc2 GL.out _, tape_new2 TL.out _⟩
              | (rw [set7row ZL.out rfl]; exact ⟨k, p, _, rfl, HK7.out, HPL.out, by first | exact Nat.le_refl _ | exact Nat.le_succ _ | exact GN.out.size | exact GP.out.size | exact Nat.le_succ_of_le GN.out.size | exact Nat.le_succ_of_le GP.out.size, setRow_heap _ _ _ _ _ _ ZL.out, gb_far GL.out (by first | exact Nat.le_refl _ | exact Nat.le_succ _ | exact GN.out.size | exact GP.out.size | exact Nat.le_succ_of_le GN.out.size | exact Nat.le_succ_of_le GP.out.size) _, tape_set TL.out (by first | omega | (have := GN.out.size; omega) | (have := GP.out.size; omega)) _⟩)
        -- END
      case rest =>
        obtain ⟨k, p, G, rfl, hk7, hpn, hG, hxb, hgx, htx⟩ := hcut
        rename World => W
        have HEV0 := Lib.hid (EvW.mk (x := ⟨(tm : Int), (k : Int), (p : Int), 0, 0, 0, 0⟩) hxb ((hgx.block _ lq (fun e => by injection e; omega)).trans HQR.out) (own_keepT HO.out hgx hT) (fun e => by have := (HO.out.lt _ e).2; omega) (own_keepT HC.out hgx hT) ((hgx.block _ (row_lt HZ.out) (fun e => by injection e; omega)).trans HZ.out) ((hgx.block _ (row_lt HZ1.out) (fun e => by injection e; omega)).trans HZ1.out) (gb_trans HGB.out hgx) htx hT hsz1 (by omega))
        have HPN := Lib.hid (show (0 : Int) ≤ (p : Int) ∧ (p : Int) < n by omega)
        have hm15 : m ≤ 15 := by omega
        have htm0 : (0 : Int) ≤ (tm : Int) := by omega
        have htm1 : tm ≤ 1000 := by rw [← HTM.out]; exact HAS.out.le j (by have := HCL.out; omega)
        have hGQ : G ≠ Q := by omega
        have hGw : G ≠ w.heap.size := by omega
        clear hxb hgx htx g0 g1 y0 hpn hG
        rcases (by omega : k = 1 ∨ k = 2 ∨ k = 3 ∨ k = 4 ∨ k = 5 ∨ k = 6 ∨ k = 7) with rfl | rfl | rfl | rfl | rfl | rfl | rfl
        · obtain ⟨n0, n1, n2, n3, n4, n5, n6⟩ := accCells (x := ⟨tm, 1, p, 0, 0, 0, 0⟩) HEV0.out.xb
          simp only at n0 n1 n2 n3 n4 n5 n6
          obtain ⟨g0, g1⟩ := geCells HEV0.out.q
          obtain ⟨h0', h1'⟩ := gdCells HEV0.out.z
          have hw1 : IntKind.i64.wrap ((d.k.length : Int) + 1) = (d.k.length : Int) + 1 := IntWalk.i64_in _ (by omega)
          have HNX2 := Lib.hid (next_any T ((d.k.length : Int) + 1) W HEV0.out.t (by omega) (by omega))
          go_wp2_with fail
          refine HNX2.out.mono ?_
          rintro e w4 ⟨r, r0, r1, rfl, hg4, ht4⟩
          obtain ⟨rn, rfl⟩ : ∃ rn : Nat, r = rn := ⟨r.toNat, by omega⟩
          have HE4 := Lib.hid (HEV0.out.next hg4 ht4)
          clear hg4 ht4
          clear n0 n1 n2 n3 n4 n5 n6 g0 g1 h0' h1'
          obtain ⟨V, hV⟩ : ∃ V, w4.setCell ⟨G, 3, none⟩ (.int .i64 (rn : Int)) = V := ⟨_, rfl⟩
          have HEV := Lib.hid (show EvW T Q G n w d v cl (some ⟨b, off, none⟩) cc m E Ae ce ⟨tm, 1, p, rn, 0, 0, 0⟩ V from hV ▸ HE4.out.set 3 (.int .i64 (rn : Int)) ⟨tm, 1, p, rn, 0, 0, 0⟩ rfl)
          have q4 : w4.frozen? ⟨G, 3, none⟩ = false := frozen_of_row _ _ _ _ _ HE4.out.xb
          have q5 := (accCells HE4.out.xb)
          unfold AcAt at q5
          obtain ⟨c0, c1, c2, c3, c4, c5, c6⟩ := q5
          simp only at c0 c1 c2 c3 c4 c5 c6
          obtain ⟨n0, n1, n2, n3, n4, n5, n6⟩ := accCells (x := ⟨tm, 1, p, rn, 0, 0, 0⟩) HEV.out.xb
          simp only at n0 n1 n2 n3 n4 n5 n6
          obtain ⟨g0, g1⟩ := geCells HEV.out.q
          obtain ⟨h0', h1'⟩ := gdCells HEV.out.z
          have HFIT := Lib.hid (show fitP n ⟨tm, 1, p, rn, 0, 0, 0⟩ by simp [fitP]; (first | done | omega))
          go_wp2_with (at_builtin; refine wpList_append_own _ rfl (.tmp 69) (.tmp 71) 26 rfl w.heap.size 76 j0 (.agg #[.int .i64 0, .int .i64 0, .int .i64 0, .int .i64 0, .int .i64 0, .int .i64 0, .int .i64 0]) 7 56 Tryz.underlying26 HJ.out HJ0.out HJ1.out HJ2.out rfl (by decide) _ E.length (av E) rfl (HEV.out.o.alloc _) ⟨V.heap.size, 0, none⟩ 1 1 [.int .i64 (tm : Int), .int .i64 1, .int .i64 (p : Int), .int .i64 (rn : Int), .int .i64 0, .int .i64 0, .int .i64 0] rfl rfl (World.news_of_block (heap_alloc_new V _)) (by simp [Value.oneCell']) (by unfold maxLen; omega) (by omega) (by have := HEV.out.g.size; simp; omega) ?_; intro v' w12 hown hgr _; obtain ⟨A', c', rfl⟩ := own_form hown; have Q12 := Lib.hid (HEV.out.q12 hgr); have HCLO := Lib.hid (ERel.close hlj HOK.out HLT.out hlt hm15 HAS.out HCL.out HTM.out HFIT.out HPN.out rfl HEV.out.q HEV.out.qw HEV.out.o HEV.out.c HEV.out.z HEV.out.z1 HEV.out.g HEV.out.t hT hgr hown); clear hown hgr; obtain ⟨r0, r1⟩ := geCells Q12.out; have r2 : w12.frozen? ⟨Q, 1, none⟩ = false := frozen_of_row _ _ _ _ _ Q12.out)
          rw [setCell_eq_setRow w12 Q 1 _ _ _ _ Q12.out]
          exact ⟨⟨j + 1, by omega, by go_num, HCLO.out⟩, by simp [intOf]; omega⟩
        · obtain ⟨n0, n1, n2, n3, n4, n5, n6⟩ := accCells (x := ⟨tm, 2, p, 0, 0, 0, 0⟩) HEV0.out.xb
          simp only at n0 n1 n2 n3 n4 n5 n6
          obtain ⟨g0, g1⟩ := geCells HEV0.out.q
          obtain ⟨h0', h1'⟩ := gdCells HEV0.out.z
          have hw1 : IntKind.i64.wrap ((d.k.length : Int) + 1) = (d.k.length : Int) + 1 := IntWalk.i64_in _ (by omega)
          have HNX2 := Lib.hid (next_any T ((d.k.length : Int) + 1) W HEV0.out.t (by omega) (by omega))
          go_wp2_with fail
          refine HNX2.out.mono ?_
          rintro e w4 ⟨r, r0, r1, rfl, hg4, ht4⟩
          obtain ⟨rn, rfl⟩ : ∃ rn : Nat, r = rn := ⟨r.toNat, by omega⟩
          have HE4 := Lib.hid (HEV0.out.next hg4 ht4)
          clear hg4 ht4
          clear n0 n1 n2 n3 n4 n5 n6 g0 g1 h0' h1'
          obtain ⟨V, hV⟩ : ∃ V, w4.setCell ⟨G, 3, none⟩ (.int .i64 (rn : Int)) = V := ⟨_, rfl⟩
          have HEV := Lib.hid (show EvW T Q G n w d v cl (some ⟨b, off, none⟩) cc m E Ae ce ⟨tm, 2, p, rn, 0, 0, 0⟩ V from hV ▸ HE4.out.set 3 (.int .i64 (rn : Int)) ⟨tm, 2, p, rn, 0, 0, 0⟩ rfl)
          have q4 : w4.frozen? ⟨G, 3, none⟩ = false := frozen_of_row _ _ _ _ _ HE4.out.xb
          have q5 := (accCells HE4.out.xb)
          unfold AcAt at q5
          obtain ⟨c0, c1, c2, c3, c4, c5, c6⟩ := q5
          simp only at c0 c1 c2 c3 c4 c5 c6
          obtain ⟨n0, n1, n2, n3, n4, n5, n6⟩ := accCells (x := ⟨tm, 2, p, rn, 0, 0, 0⟩) HEV.out.xb
          simp only at n0 n1 n2 n3 n4 n5 n6
          obtain ⟨g0, g1⟩ := geCells HEV.out.q
          obtain ⟨h0', h1'⟩ := gdCells HEV.out.z
          have HFIT := Lib.hid (show fitP n ⟨tm, 2, p, rn, 0, 0, 0⟩ by simp [fitP]; (first | done | omega))
          go_wp2_with (at_builtin; refine wpList_append_own _ rfl (.tmp 69) (.tmp 71) 26 rfl w.heap.size 76 j0 (.agg #[.int .i64 0, .int .i64 0, .int .i64 0, .int .i64 0, .int .i64 0, .int .i64 0, .int .i64 0]) 7 56 Tryz.underlying26 HJ.out HJ0.out HJ1.out HJ2.out rfl (by decide) _ E.length (av E) rfl (HEV.out.o.alloc _) ⟨V.heap.size, 0, none⟩ 1 1 [.int .i64 (tm : Int), .int .i64 2, .int .i64 (p : Int), .int .i64 (rn : Int), .int .i64 0, .int .i64 0, .int .i64 0] rfl rfl (World.news_of_block (heap_alloc_new V _)) (by simp [Value.oneCell']) (by unfold maxLen; omega) (by omega) (by have := HEV.out.g.size; simp; omega) ?_; intro v' w12 hown hgr _; obtain ⟨A', c', rfl⟩ := own_form hown; have Q12 := Lib.hid (HEV.out.q12 hgr); have HCLO := Lib.hid (ERel.close hlj HOK.out HLT.out hlt hm15 HAS.out HCL.out HTM.out HFIT.out HPN.out rfl HEV.out.q HEV.out.qw HEV.out.o HEV.out.c HEV.out.z HEV.out.z1 HEV.out.g HEV.out.t hT hgr hown); clear hown hgr; obtain ⟨r0, r1⟩ := geCells Q12.out; have r2 : w12.frozen? ⟨Q, 1, none⟩ = false := frozen_of_row _ _ _ _ _ Q12.out)
          rw [setCell_eq_setRow w12 Q 1 _ _ _ _ Q12.out]
          exact ⟨⟨j + 1, by omega, by go_num, HCLO.out⟩, by simp [intOf]; omega⟩
        · obtain ⟨n0, n1, n2, n3, n4, n5, n6⟩ := accCells (x := ⟨tm, 3, p, 0, 0, 0, 0⟩) HEV0.out.xb
          simp only at n0 n1 n2 n3 n4 n5 n6
          obtain ⟨g0, g1⟩ := geCells HEV0.out.q
          obtain ⟨h0', h1'⟩ := gdCells HEV0.out.z
          have hw1 : IntKind.i64.wrap ((tm : Int) + 1) = (tm : Int) + 1 := IntWalk.i64_in _ (by omega)
          have HNX2 := Lib.hid (next_any T (5) W HEV0.out.t (by omega) (by omega))
          go_wp2_with fail
          refine HNX2.out.mono ?_
          rintro e w4 ⟨r, r0, r1, rfl, hg4, ht4⟩
          obtain ⟨rn, rfl⟩ : ∃ rn : Nat, r = rn := ⟨r.toNat, by omega⟩
          have HE4 := Lib.hid (HEV0.out.next hg4 ht4)
          clear hg4 ht4
          clear n0 n1 n2 n3 n4 n5 n6 g0 g1 h0' h1'
          have hw2 : IntKind.i64.wrap ((tm : Int) + 1 + (rn : Int)) = (tm : Int) + 1 + (rn : Int) := IntWalk.i64_in _ (by omega)
          obtain ⟨un, hun⟩ : ∃ un : Nat, tm + 1 + rn = un := ⟨_, rfl⟩
          have hun2 : (tm : Int) + 1 + (rn : Int) = (un : Int) := by omega
          have hun3 : un ≤ 2000 := by omega
          obtain ⟨V, hV⟩ : ∃ V, w4.setCell ⟨G, 4, none⟩ (.int .i64 (un : Int)) = V := ⟨_, rfl⟩
          have HEV := Lib.hid (show EvW T Q G n w d v cl (some ⟨b, off, none⟩) cc m E Ae ce ⟨tm, 3, p, 0, un, 0, 0⟩ V from hV ▸ HE4.out.set 4 (.int .i64 (un : Int)) ⟨tm, 3, p, 0, un, 0, 0⟩ rfl)
          have q4 : w4.frozen? ⟨G, 4, none⟩ = false := frozen_of_row _ _ _ _ _ HE4.out.xb
          have q5 := (accCells HE4.out.xb)
          unfold AcAt at q5
          obtain ⟨c0, c1, c2, c3, c4, c5, c6⟩ := q5
          simp only at c0 c1 c2 c3 c4 c5 c6
          obtain ⟨n0, n1, n2, n3, n4, n5, n6⟩ := accCells (x := ⟨tm, 3, p, 0, un, 0, 0⟩) HEV.out.xb
          simp only at n0 n1 n2 n3 n4 n5 n6
          obtain ⟨g0, g1⟩ := geCells HEV.out.q
          obtain ⟨h0', h1'⟩ := gdCells HEV.out.z
          have HFIT := Lib.hid (show fitP n ⟨tm, 3, p, 0, un, 0, 0⟩ by simp [fitP]; (first | done | omega))
          go_wp2_with (at_builtin; refine wpList_append_own _ rfl (.tmp 69) (.tmp 71) 26 rfl w.heap.size 76 j0 (.agg #[.int .i64 0, .int .i64 0, .int .i64 0, .int .i64 0, .int .i64 0, .int .i64 0, .int .i64 0]) 7 56 Tryz.underlying26 HJ.out HJ0.out HJ1.out HJ2.out rfl (by decide) _ E.length (av E) rfl (HEV.out.o.alloc _) ⟨V.heap.size, 0, none⟩ 1 1 [.int .i64 (tm : Int), .int .i64 3, .int .i64 (p : Int), .int .i64 0, .int .i64 (un : Int), .int .i64 0, .int .i64 0] rfl rfl (World.news_of_block (heap_alloc_new V _)) (by simp [Value.oneCell']) (by unfold maxLen; omega) (by omega) (by have := HEV.out.g.size; simp; omega) ?_; intro v' w12 hown hgr _; obtain ⟨A', c', rfl⟩ := own_form hown; have Q12 := Lib.hid (HEV.out.q12 hgr); have HCLO := Lib.hid (ERel.close hlj HOK.out HLT.out hlt hm15 HAS.out HCL.out HTM.out HFIT.out HPN.out rfl HEV.out.q HEV.out.qw HEV.out.o HEV.out.c HEV.out.z HEV.out.z1 HEV.out.g HEV.out.t hT hgr hown); clear hown hgr; obtain ⟨r0, r1⟩ := geCells Q12.out; have r2 : w12.frozen? ⟨Q, 1, none⟩ = false := frozen_of_row _ _ _ _ _ Q12.out)
          rw [setCell_eq_setRow w12 Q 1 _ _ _ _ Q12.out]
          exact ⟨⟨j + 1, by omega, by go_num, HCLO.out⟩, by simp [intOf]; omega⟩
        · obtain ⟨V, hV⟩ : ∃ V, W = V := ⟨_, rfl⟩
          subst hV
          have HEV := HEV0
          obtain ⟨n0, n1, n2, n3, n4, n5, n6⟩ := accCells (x := ⟨tm, 4, p, 0, 0, 0, 0⟩) HEV.out.xb
          simp only at n0 n1 n2 n3 n4 n5 n6
          obtain ⟨g0, g1⟩ := geCells HEV.out.q
          obtain ⟨h0', h1'⟩ := gdCells HEV.out.z
          have HFIT := Lib.hid (show fitP n ⟨tm, 4, p, 0, 0, 0, 0⟩ by simp [fitP]; (first | done | omega))
          go_wp2_with (at_builtin; refine wpList_append_own _ rfl (.tmp 69) (.tmp 71) 26 rfl w.heap.size 76 j0 (.agg #[.int .i64 0, .int .i64 0, .int .i64 0, .int .i64 0, .int .i64 0, .int .i64 0, .int .i64 0]) 7 56 Tryz.underlying26 HJ.out HJ0.out HJ1.out HJ2.out rfl (by decide) _ E.length (av E) rfl (HEV.out.o.alloc _) ⟨W.heap.size, 0, none⟩ 1 1 [.int .i64 (tm : Int), .int .i64 4, .int .i64 (p : Int), .int .i64 0, .int .i64 0, .int .i64 0, .int .i64 0] rfl rfl (World.news_of_block (heap_alloc_new W _)) (by simp [Value.oneCell']) (by unfold maxLen; omega) (by omega) (by have := HEV.out.g.size; simp; omega) ?_; intro v' w12 hown hgr _; obtain ⟨A', c', rfl⟩ := own_form hown; have Q12 := Lib.hid (HEV.out.q12 hgr); have HCLO := Lib.hid (ERel.close hlj HOK.out HLT.out hlt hm15 HAS.out HCL.out HTM.out HFIT.out HPN.out rfl HEV.out.q HEV.out.qw HEV.out.o HEV.out.c HEV.out.z HEV.out.z1 HEV.out.g HEV.out.t hT hgr hown); clear hown hgr; obtain ⟨r0, r1⟩ := geCells Q12.out; have r2 : w12.frozen? ⟨Q, 1, none⟩ = false := frozen_of_row _ _ _ _ _ Q12.out)
          rw [setCell_eq_setRow w12 Q 1 _ _ _ _ Q12.out]
          exact ⟨⟨j + 1, by omega, by go_num, HCLO.out⟩, by simp [intOf]; omega⟩
        · obtain ⟨n0, n1, n2, n3, n4, n5, n6⟩ := accCells (x := ⟨tm, 5, p, 0, 0, 0, 0⟩) HEV0.out.xb
          simp only at n0 n1 n2 n3 n4 n5 n6
          obtain ⟨g0, g1⟩ := geCells HEV0.out.q
          obtain ⟨h0', h1'⟩ := gdCells HEV0.out.z
          have HNX2 := Lib.hid (next_any T (3) W HEV0.out.t (by omega) (by omega))
          go_wp2_with fail
          refine HNX2.out.mono ?_
          rintro e w4 ⟨r, r0, r1, rfl, hg4, ht4⟩
          obtain ⟨rn, rfl⟩ : ∃ rn : Nat, r = rn := ⟨r.toNat, by omega⟩
          have HE4 := Lib.hid (HEV0.out.next hg4 ht4)
          clear hg4 ht4
          clear n0 n1 n2 n3 n4 n5 n6 g0 g1 h0' h1'
          obtain ⟨V, hV⟩ : ∃ V, w4.setCell ⟨G, 5, none⟩ (.int .i64 (rn : Int)) = V := ⟨_, rfl⟩
          have HEV := Lib.hid (show EvW T Q G n w d v cl (some ⟨b, off, none⟩) cc m E Ae ce ⟨tm, 5, p, 0, 0, rn, 0⟩ V from hV ▸ HE4.out.set 5 (.int .i64 (rn : Int)) ⟨tm, 5, p, 0, 0, rn, 0⟩ rfl)
          have q4 : w4.frozen? ⟨G, 5, none⟩ = false := frozen_of_row _ _ _ _ _ HE4.out.xb
          have q5 := (accCells HE4.out.xb)
          unfold AcAt at q5
          obtain ⟨c0, c1, c2, c3, c4, c5, c6⟩ := q5
          simp only at c0 c1 c2 c3 c4 c5 c6
          obtain ⟨n0, n1, n2, n3, n4, n5, n6⟩ := accCells (x := ⟨tm, 5, p, 0, 0, rn, 0⟩) HEV.out.xb
          simp only at n0 n1 n2 n3 n4 n5 n6
          obtain ⟨g0, g1⟩ := geCells HEV.out.q
          obtain ⟨h0', h1'⟩ := gdCells HEV.out.z
          have HFIT := Lib.hid (show fitP n ⟨tm, 5, p, 0, 0, rn, 0⟩ by simp [fitP]; (first | done | omega))
          go_wp2_with (at_builtin; refine wpList_append_own _ rfl (.tmp 69) (.tmp 71) 26 rfl w.heap.size 76 j0 (.agg #[.int .i64 0, .int .i64 0, .int .i64 0, .int .i64 0, .int .i64 0, .int .i64 0, .int .i64 0]) 7 56 Tryz.underlying26 HJ.out HJ0.out HJ1.out HJ2.out rfl (by decide) _ E.length (av E) rfl (HEV.out.o.alloc _) ⟨V.heap.size, 0, none⟩ 1 1 [.int .i64 (tm : Int), .int .i64 5, .int .i64 (p : Int), .int .i64 0, .int .i64 0, .int .i64 (rn : Int), .int .i64 0] rfl rfl (World.news_of_block (heap_alloc_new V _)) (by simp [Value.oneCell']) (by unfold maxLen; omega) (by omega) (by have := HEV.out.g.size; simp; omega) ?_; intro v' w12 hown hgr _; obtain ⟨A', c', rfl⟩ := own_form hown; have Q12 := Lib.hid (HEV.out.q12 hgr); have HCLO := Lib.hid (ERel.close hlj HOK.out HLT.out hlt hm15 HAS.out HCL.out HTM.out HFIT.out HPN.out rfl HEV.out.q HEV.out.qw HEV.out.o HEV.out.c HEV.out.z HEV.out.z1 HEV.out.g HEV.out.t hT hgr hown); clear hown hgr; obtain ⟨r0, r1⟩ := geCells Q12.out; have r2 : w12.frozen? ⟨Q, 1, none⟩ = false := frozen_of_row _ _ _ _ _ Q12.out)
          rw [setCell_eq_setRow w12 Q 1 _ _ _ _ Q12.out]
          exact ⟨⟨j + 1, by omega, by go_num, HCLO.out⟩, by simp [intOf]; omega⟩
        · obtain ⟨n0, n1, n2, n3, n4, n5, n6⟩ := accCells (x := ⟨tm, 6, p, 0, 0, 0, 0⟩) HEV0.out.xb
          simp only at n0 n1 n2 n3 n4 n5 n6
          obtain ⟨g0, g1⟩ := geCells HEV0.out.q
          obtain ⟨h0', h1'⟩ := gdCells HEV0.out.z
          have HNX2 := Lib.hid (next_any T (3) W HEV0.out.t (by omega) (by omega))
          go_wp2_with fail
          refine HNX2.out.mono ?_
          rintro e w4 ⟨r, r0, r1, rfl, hg4, ht4⟩
          obtain ⟨rn, rfl⟩ : ∃ rn : Nat, r = rn := ⟨r.toNat, by omega⟩
          have HE4 := Lib.hid (HEV0.out.next hg4 ht4)
          clear hg4 ht4
          clear n0 n1 n2 n3 n4 n5 n6 g0 g1 h0' h1'
          obtain ⟨V, hV⟩ : ∃ V, w4.setCell ⟨G, 5, none⟩ (.int .i64 (rn : Int)) = V := ⟨_, rfl⟩
          have HEV := Lib.hid (show EvW T Q G n w d v cl (some ⟨b, off, none⟩) cc m E Ae ce ⟨tm, 6, p, 0, 0, rn, 0⟩ V from hV ▸ HE4.out.set 5 (.int .i64 (rn : Int)) ⟨tm, 6, p, 0, 0, rn, 0⟩ rfl)
          have q4 : w4.frozen? ⟨G, 5, none⟩ = false := frozen_of_row _ _ _ _ _ HE4.out.xb
          have q5 := (accCells HE4.out.xb)
          unfold AcAt at q5
          obtain ⟨c0, c1, c2, c3, c4, c5, c6⟩ := q5
          simp only at c0 c1 c2 c3 c4 c5 c6
          obtain ⟨n0, n1, n2, n3, n4, n5, n6⟩ := accCells (x := ⟨tm, 6, p, 0, 0, rn, 0⟩) HEV.out.xb
          simp only at n0 n1 n2 n3 n4 n5 n6
          obtain ⟨g0, g1⟩ := geCells HEV.out.q
          obtain ⟨h0', h1'⟩ := gdCells HEV.out.z
          have HFIT := Lib.hid (show fitP n ⟨tm, 6, p, 0, 0, rn, 0⟩ by simp [fitP]; (first | done | omega))
          go_wp2_with (at_builtin; refine wpList_append_own _ rfl (.tmp 69) (.tmp 71) 26 rfl w.heap.size 76 j0 (.agg #[.int .i64 0, .int .i64 0, .int .i64 0, .int .i64 0, .int .i64 0, .int .i64 0, .int .i64 0]) 7 56 Tryz.underlying26 HJ.out HJ0.out HJ1.out HJ2.out rfl (by decide) _ E.length (av E) rfl (HEV.out.o.alloc _) ⟨V.heap.size, 0, none⟩ 1 1 [.int .i64 (tm : Int), .int .i64 6, .int .i64 (p : Int), .int .i64 0, .int .i64 0, .int .i64 (rn : Int), .int .i64 0] rfl rfl (World.news_of_block (heap_alloc_new V _)) (by simp [Value.oneCell']) (by unfold maxLen; omega) (by omega) (by have := HEV.out.g.size; simp; omega) ?_; intro v' w12 hown hgr _; obtain ⟨A', c', rfl⟩ := own_form hown; have Q12 := Lib.hid (HEV.out.q12 hgr); have HCLO := Lib.hid (ERel.close hlj HOK.out HLT.out hlt hm15 HAS.out HCL.out HTM.out HFIT.out HPN.out rfl HEV.out.q HEV.out.qw HEV.out.o HEV.out.c HEV.out.z HEV.out.z1 HEV.out.g HEV.out.t hT hgr hown); clear hown hgr; obtain ⟨r0, r1⟩ := geCells Q12.out; have r2 : w12.frozen? ⟨Q, 1, none⟩ = false := frozen_of_row _ _ _ _ _ Q12.out)
          rw [setCell_eq_setRow w12 Q 1 _ _ _ _ Q12.out]
          exact ⟨⟨j + 1, by omega, by go_num, HCLO.out⟩, by simp [intOf]; omega⟩
        · obtain ⟨n0, n1, n2, n3, n4, n5, n6⟩ := accCells (x := ⟨tm, 7, p, 0, 0, 0, 0⟩) HEV0.out.xb
          simp only at n0 n1 n2 n3 n4 n5 n6
          obtain ⟨g0, g1⟩ := geCells HEV0.out.q
          obtain ⟨h0', h1'⟩ := gdCells HEV0.out.z
          have HNX2 := Lib.hid (next_any T (n) W HEV0.out.t (by omega) (by omega))
          go_wp2_with fail
          refine HNX2.out.mono ?_
          rintro e w4 ⟨r, r0, r1, rfl, hg4, ht4⟩
          obtain ⟨rn, rfl⟩ : ∃ rn : Nat, r = rn := ⟨r.toNat, by omega⟩
          have HE4 := Lib.hid (HEV0.out.next hg4 ht4)
          clear hg4 ht4
          clear n0 n1 n2 n3 n4 n5 n6 g0 g1 h0' h1'
          obtain ⟨V, hV⟩ : ∃ V, w4.setCell ⟨G, 6, none⟩ (.int .i64 (rn : Int)) = V := ⟨_, rfl⟩
          have HEV := Lib.hid (show EvW T Q G n w d v cl (some ⟨b, off, none⟩) cc m E Ae ce ⟨tm, 7, p, 0, 0, 0, rn⟩ V from hV ▸ HE4.out.set 6 (.int .i64 (rn : Int)) ⟨tm, 7, p, 0, 0, 0, rn⟩ rfl)
          have q4 : w4.frozen? ⟨G, 6, none⟩ = false := frozen_of_row _ _ _ _ _ HE4.out.xb
          have q5 := (accCells HE4.out.xb)
          unfold AcAt at q5
          obtain ⟨c0, c1, c2, c3, c4, c5, c6⟩ := q5
          simp only at c0 c1 c2 c3 c4 c5 c6
          obtain ⟨n0, n1, n2, n3, n4, n5, n6⟩ := accCells (x := ⟨tm, 7, p, 0, 0, 0, rn⟩) HEV.out.xb
          simp only at n0 n1 n2 n3 n4 n5 n6
          obtain ⟨g0, g1⟩ := geCells HEV.out.q
          obtain ⟨h0', h1'⟩ := gdCells HEV.out.z
          by_cases hsame : rn = p
          · have e1 : ((rn : Int) == (p : Int)) = true := by rw [hsame]; simp
            clear hsame
            go_wp2_with fail
            exact ⟨⟨j + 1, by omega, by go_num, ERel.same hlj HOK.out HLT.out HEV.out.q HEV.out.o HEV.out.c HEV.out.z HEV.out.z1 HEV.out.g HEV.out.t⟩, by simp [intOf]; omega⟩
          · have e1 : ((rn : Int) == (p : Int)) = false := beq_eq_false_iff_ne.2 (by omega)
            have HFIT := Lib.hid (show fitP n ⟨tm, 7, p, 0, 0, 0, rn⟩ by simp [fitP]; (first | done | omega))
            go_wp2_with (at_builtin; refine wpList_append_own _ rfl (.tmp 69) (.tmp 71) 26 rfl w.heap.size 76 j0 (.agg #[.int .i64 0, .int .i64 0, .int .i64 0, .int .i64 0, .int .i64 0, .int .i64 0, .int .i64 0]) 7 56 Tryz.underlying26 HJ.out HJ0.out HJ1.out HJ2.out rfl (by decide) _ E.length (av E) rfl (HEV.out.o.alloc _) ⟨V.heap.size, 0, none⟩ 1 1 [.int .i64 (tm : Int), .int .i64 7, .int .i64 (p : Int), .int .i64 0, .int .i64 0, .int .i64 0, .int .i64 (rn : Int)] rfl rfl (World.news_of_block (heap_alloc_new V _)) (by simp [Value.oneCell']) (by unfold maxLen; omega) (by omega) (by have := HEV.out.g.size; simp; omega) ?_; intro v' w12 hown hgr _; obtain ⟨A', c', rfl⟩ := own_form hown; have Q12 := Lib.hid (HEV.out.q12 hgr); have HCLO := Lib.hid (ERel.close hlj HOK.out HLT.out hlt hm15 HAS.out HCL.out HTM.out HFIT.out HPN.out rfl HEV.out.q HEV.out.qw HEV.out.o HEV.out.c HEV.out.z HEV.out.z1 HEV.out.g HEV.out.t hT hgr hown); clear hown hgr; obtain ⟨r0, r1⟩ := geCells Q12.out; have r2 : w12.frozen? ⟨Q, 1, none⟩ = false := frozen_of_row _ _ _ _ _ Q12.out)
            rw [setCell_eq_setRow w12 Q 1 _ _ _ _ Q12.out]
            exact ⟨⟨j + 1, by omega, by go_num, HCLO.out⟩, by simp [intOf]; omega⟩
    · obtain rfl : m = j := by omega
      clear hown hoc hz hz1 hq hgb htp
      have HMK := Lib.hid (⟨HOK.out, hn1, by show E.length ≤ 15; omega, fun i hi => (HLT.out i hi).1⟩ : MkE ⟨n, E⟩)
      obtain ⟨z0, z1, z2, z3⟩ := zeCells HZ1.out
      have HR := Lib.hid (setRow_heap wr (w.heap.size + 1) _ (ge ⟨n, E⟩ ⟨Ae, ce⟩) _ _ HZ1.out)
      have HEL := Lib.hid (row_of_own (kept_ne HO.out (gb_setRow wr (w.heap.size + 1) (ge ⟨n, E⟩ ⟨Ae, ce⟩)) (fun g e => by cases e; exact own_not HO.out HZ1.out (by decide))))
      go_wp2_with fail
      rw [set2row (g := w.heap.size + 1) HZ1.out rfl]
      exact bodyPost_ret (v := .agg (ge ⟨n, E⟩ ⟨Ae, ce⟩)) (results_cell_row rfl _ _ (w.heap.size + 1) 28 (ge ⟨n, E⟩ ⟨Ae, ce⟩) (0, 0) _ rfl HR.out Tryz.underlying28 rfl (infoEs _ _)) rfl ⟨_, _, rfl, HMK.out, HEL.out, gb_far HGB.out (by omega) _, tape_set HTP.out (by omega) _, own_cap HO.out⟩

end Go.Proofs.YtgknfkmojhganaaGreat.Di

namespace Go.Proofs.YtgknfkmojhganaaGreat.Di.T
open Go.RowKit
open Go.Proofs.YtgknfkmojhganaaGreat.Tp
set_option linter.unusedVariables false
set_option linter.unusedSimpArgs false

/-- A clock: n times, none above 44. -/
def ClPost (T n : Nat) (w : World) (e : Ending) (w' : World) : Prop := ∃ (l : List Nat) (A : Option Addr) (cc : Nat), e = .returned (.slice A n cc) ∧ l.length = n ∧ Asc l 44 ∧ w'.ownsRow w.heap.size 3 1 (.slice A n cc) n (iv l) ∧ w.grownBy w' (some T) ∧ TapeOk w' T
set_option maxRecDepth 100000 in
set_option maxHeartbeats 1000000 in
theorem clock_any (T n : Nat) (w : World) (ht : TapeOk w T) (hT : T < w.heap.size) (hn : n ≤ 20) :
    Calls Tryz.prog 40 #[.pointer (some ⟨T, 0, none⟩), .int .i64 (n : Int)] w (ClPost T n w) := by
  have HT0 := Lib.hid ht
  clear ht
  obtain ⟨i0, hi1, hz0, hz1, hz2⟩ := info_parts zinfo3
  have HI := Lib.hid hi1
  have HI0 := Lib.hid hz0
  have HI1 := Lib.hid hz1
  have HI2 := Lib.hid hz2
  clear hi1 hz0 hz1 hz2
  go_enter Tryz.func40, Tryz.ntmps40
  go_wp2_with fail
  refine (next_any T 4 _ HT0.out (by omega) (by omega)).mono ?_
  rintro e w1 ⟨z1, a1, b1, rfl, hg1, ht1⟩
  obtain ⟨m0, rfl⟩ : ∃ z : Nat, z1 = z := ⟨z1.toNat, by omega⟩
  have HG1 := Lib.hid hg1
  have HT1 := Lib.hid ht1
  clear hg1 ht1
  go_wp2_with fail
  go_loopw [5, 6, 7] (fun ov mm ii wr => ∃ (k m : Nat) (l : List Nat), k ≤ n ∧ ii = .int .i64 (k : Int) ∧ mm = .int .i64 (m : Int) ∧ m ≤ 3 + 2 * k ∧ l.length = k ∧ Asc l m ∧ wr.ownsRow w.heap.size 3 1 ov k (iv l) ∧ w.grownBy wr (some T) ∧ TapeOk wr T) (fun _ _ ii _ => n - (intOf ii).toNat)
  case atStart => exact ⟨0, m0, [], by omega, rfl, rfl, by omega, rfl, ⟨fun j h => absurd h (by simp), fun j h => absurd h (by simp)⟩, own_nil _ _ _ _, HG1.out, HT1.out⟩
  case round =>
    obtain ⟨k, m, l, hk, rfl, rfl, hm, hl, has, hown, hg, htp⟩ := hrel
    have HOWN := Lib.hid hown
    have HG := Lib.hid hg
    have HT := Lib.hid htp
    have HAS := Lib.hid has
    have HL := Lib.hid hl
    have hsz := hg.size
    clear hown hg htp has hl HG1 HT1 HT0
    by_cases hlt : k < n
    · have hTr : T < wr.heap.size := by omega
      have h3 : (k : Int) < (n : Int) := by omega
      go_wp2_with fail
      refine (next_any T 3 _ HT.out (by omega) (by omega)).mono ?_
      rintro e w2 ⟨z2, a2, b2, rfl, hg2, ht2⟩
      obtain ⟨z, rfl⟩ : ∃ y : Nat, z2 = y := ⟨z2.toNat, by omega⟩
      have G2 := Lib.hid (gb_trans HG.out hg2)
      have T2 := Lib.hid ht2
      have O2 := Lib.hid (own_keepT HOWN.out hg2 hT)
      have hs2 := (gb_trans HG.out hg2).size
      clear hg2 ht2
      have hsum : (m : Int) + (z : Int) = ((m + z : Nat) : Int) := by omega
      have HS := Lib.hid (HAS.out.snoc (show m ≤ m + z by omega))
      have HIX := Lib.hid (iv_snoc l (m + z))
      have hmz : m + z ≤ 3 + 2 * (k + 1) := by omega
      generalize hy : m + z = y at *
      clear hy
      go_wp2_with (at_builtin; refine wpList_append_own _ rfl (.tmp 19) (.tmp 21) 22 rfl w.heap.size 3 i0 (.int .i64 0) 1 8 Tryz.underlying22 HI.out HI0.out HI1.out HI2.out rfl (by decide) _ k (iv l) rfl (O2.out.alloc _) ⟨w2.heap.size, 0, none⟩ 1 1 [.int .i64 (y : Int)] rfl rfl (World.news_of_block (heap_alloc_new w2 _)) (by simp [Value.oneCell']) (by unfold maxLen; omega) (by omega) (by simp; omega) ?_; intro v' w6 hown hgr _; have GR := Lib.hid hgr; have HOWN6 := Lib.hid hown; have G6 := Lib.hid (gb_own (gb_trans G2.out (gb_row (gb_of_below (box_below w2 _)))) GR.out (fun g e => (O2.out.lt g e).1)); have T6 := Lib.hid (tape_kept (tape_new2 T2.out _) GR.out (fun g e => by have := (O2.out.lt g e).1; omega)); clear hown hgr)
      exact ⟨⟨k + 1, y, l ++ [y], by omega, by go_num, rfl, hmz, by simp [HL.out], HS.out, by rw [HIX.out]; exact HOWN6.out, G6.out, T6.out⟩, by simp [intOf]; omega⟩
    · obtain rfl : k = n := by omega
      obtain ⟨A, cc, rfl⟩ := own_form HOWN.out
      go_wp2_with fail
      go_ret
      exact ⟨l, A, cc, rfl, HL.out, ⟨HAS.out.up, fun j hj => Nat.le_trans (HAS.out.le j hj) (by omega)⟩, HOWN.out, HG.out, HT.out⟩
/-- A directory that the maker gives. -/
structure Mk (d : Dy) : Prop where
  ok : Ok d
  n1 : 1 ≤ d.k.length
  n7 : d.k.length ≤ 7
  e11 : d.e.length ≤ 11
  t : ∀ j, j < d.e.length → (eg d j).t ≤ 44
def DrPost (T : Nat) (w : World) (e : Ending) (w' : World) : Prop := ∃ d v, e = .returned (.agg (gd d v)) ∧ Mk d ∧ DL w' (w.heap.size + 1) d v ∧ w.grownBy w' (some T) ∧ TapeOk w' T
/-- While the events are made. -/
def L3 (T : Nat) (w : World) (l : List Nat) (A : Option Addr) (c' : Nat) (gs : List Nat) (vg : Value) (ng : Nat) (cl : List Nat) (vc : Value) (m j : Nat) (wr : World) : Prop :=
  ∃ (E : List Mb) (Ae : Option Addr) (ce : Nat), E.length ≤ j ∧ Ok ⟨l, E⟩ ∧ (∀ i, i < E.length → (E.getD i m0).t ≤ 44 ∧ ∀ j', j ≤ j' → j' < m → (E.getD i m0).t ≤ cl.getD j' 0) ∧
    wr.heap[w.heap.size + 1 + 1]? = some (.cells #[.slice A l.length c', .slice Ae E.length ce] 25 (0, 0)) ∧ wr.ownsRow (w.heap.size + 1) 79 4 (.slice Ae E.length ce) E.length (ev E) ∧
    wr.ownsRow (w.heap.size + 1) 3 1 (.slice A l.length c') l.length (iv l) ∧ wr.ownsRow (w.heap.size + 1) 3 1 vg ng (iv gs) ∧ wr.ownsRow (w.heap.size + 1) 3 1 vc m (iv cl) ∧
    wr.heap[w.heap.size]? = some (.cells zD 25 (0, 0)) ∧ w.grownBy wr (some T) ∧ TapeOk wr T
theorem L3.same {T : Nat} {w : World} {l : List Nat} {A : Option Addr} {c' : Nat} {gs : List Nat} {vg : Value} {ng : Nat} {cl : List Nat} {vc : Value} {m j : Nat} {W : World} {E : List Mb} {Ae : Option Addr} {ce : Nat}
    (hok : Ok ⟨l, E⟩) (hEt : ∀ i, i < E.length → (E.getD i m0).t ≤ 44 ∧ ∀ j', j ≤ j' → j' < m → (E.getD i m0).t ≤ cl.getD j' 0) (hEj : E.length ≤ j)
    (hD : W.heap[w.heap.size + 1 + 1]? = some (.cells #[.slice A l.length c', .slice Ae E.length ce] 25 (0, 0))) (hO : W.ownsRow (w.heap.size + 1) 79 4 (.slice Ae E.length ce) E.length (ev E))
    (hK : W.ownsRow (w.heap.size + 1) 3 1 (.slice A l.length c') l.length (iv l)) (hG : W.ownsRow (w.heap.size + 1) 3 1 vg ng (iv gs)) (hC : W.ownsRow (w.heap.size + 1) 3 1 vc m (iv cl))
    (hZ : W.heap[w.heap.size]? = some (.cells zD 25 (0, 0))) (hB : w.grownBy W (some T)) (hT : TapeOk W T) : L3 T w l A c' gs vg ng cl vc m (j + 1) W :=
  ⟨E, Ae, ce, by omega, hok, fun i hi => ⟨(hEt i hi).1, fun j' h1 h2 => (hEt i hi).2 j' (by omega) h2⟩, hD, hO, hK, hG, hC, hZ, hB, hT⟩
theorem L3.close {T : Nat} {w : World} {l : List Nat} {A : Option Addr} {c' : Nat} {gs : List Nat} {vg : Value} {ng : Nat} {cl : List Nat} {vc : Value} {m j tm : Nat} {W w12 : World} {E : List Mb} {Ae Ae' : Option Addr} {ce ce' : Nat} {x : Mb} {o : Obj}
    (hok : Ok ⟨l, E⟩) (hEt : ∀ i, i < E.length → (E.getD i m0).t ≤ 44 ∧ ∀ j', j ≤ j' → j' < m → (E.getD i m0).t ≤ cl.getD j' 0) (hEj : E.length ≤ j) (hjm : j < m) (hm : m ≤ 11) (has : Asc cl 44) (hcl : cl.length = m) (htm : cl.getD j 0 = tm)
    (hk : x.k = 1 ∨ x.k = 2) (hp : x.p < l.length) (hg : x.g < l.length) (hg2 : l.getD x.g 0 = 2) (hne : x.p ≠ x.g) 
    (hO : W.ownsRow (w.heap.size + 1) 79 4 (.slice Ae E.length ce) E.length (ev E))
    (hK : W.ownsRow (w.heap.size + 1) 3 1 (.slice A l.length c') l.length (iv l)) (hG : W.ownsRow (w.heap.size + 1) 3 1 vg ng (iv gs)) (hC : W.ownsRow (w.heap.size + 1) 3 1 vc m (iv cl))
    (hD : W.heap[w.heap.size + 1 + 1]? = some (.cells #[.slice A l.length c', .slice Ae E.length ce] 25 (0, 0)))
    (hB : w.grownBy W (some T)) (hT : TapeOk W T) (hTw : T < w.heap.size) (hgr : (W.alloc o).grownBy w12 (Value.slice Ae E.length ce).ownBlock)
    (hO2 : w12.ownsRow (w.heap.size + 1) 79 4 (.slice Ae' (E.length + 1) ce') (E.length + 1) (ev E ++ [.int .i64 (x.t : Int), .int .i64 (x.k : Int), .int .i64 (x.p : Int), .int .i64 (x.g : Int)]))
    (hQ : w12.heap[w.heap.size + 1 + 1]? = some (.cells #[.slice A l.length c', .slice Ae E.length ce] 25 (0, 0))) (hZ : w12.heap[w.heap.size]? = some (.cells zD 25 (0, 0))) (hxt : x.t = tm := by rfl) :
    L3 T w l A c' gs vg ng cl vc m (j + 1) (w12.setRow (w.heap.size + 1 + 1) ((#[.slice A l.length c', .slice Ae E.length ce] : Array Value).setIfInBounds 1 (.slice Ae' (E.length + 1) ce'))) := by
  have htm2 : ∀ j', j ≤ j' → j' < m → tm ≤ cl.getD j' 0 := fun j' h1 h2 => by
    obtain ⟨dd, rfl⟩ : ∃ dd, j' = j + dd := ⟨j' - j, by omega⟩
    rw [← htm]; exact has.mono dd j (by omega)
  have htm3 : tm ≤ 44 := by rw [← htm]; exact has.le j (by omega)
  have hlen : (E ++ [x]).length = E.length + 1 := by simp
  have hs := gb_setRow w12 (w.heap.size + 1 + 1) ((#[.slice A l.length c', .slice Ae E.length ce] : Array Value).setIfInBounds 1 (.slice Ae' (E.length + 1) ce'))
  have hba := box_below W o
  have keep3 : ∀ {v n xs}, W.ownsRow (w.heap.size + 1) 3 1 v n xs → (w12.setRow (w.heap.size + 1 + 1) ((#[.slice A l.length c', .slice Ae E.length ce] : Array Value).setIfInBounds 1 (.slice Ae' (E.length + 1) ce'))).ownsRow (w.heap.size + 1) 3 1 v n xs := fun h =>
    have h1 := own_below h hba
    have h2 := kept_ne h1 hgr (fun g e => own_ne (own_below hO hba) h1 (by decide) g e)
    kept_ne h2 hs (fun g e => by cases e; exact own_not h2 hQ (by decide))
  refine ⟨E ++ [x], Ae', ce', by omega, ?_, fun i hi => ?_, ?_, ?_, keep3 hK, keep3 hG, keep3 hC, (setRow_other _ _ _ _ (by omega)).trans hZ, ?_, ?_⟩
  · refine Ok.add (d := ⟨l, E⟩) hok ⟨hk, by rw [hxt]; omega, hp, hg, hg2, hne⟩ (by show E.length < 120; omega) (fun i hi => ?_)
    rw [hxt, ← htm]
    exact (hEt i hi).2 j (Nat.le_refl _) hjm
  · rw [hlen] at hi
    by_cases e : i = E.length
    · have hx : (E ++ [x]).getD i m0 = x := by rw [e]; exact eg_end (d := ⟨l, E⟩)
      rw [hx, hxt]
      exact ⟨htm3, fun j' h1 h2 => htm2 j' (by omega) h2⟩
    · have hx : (E ++ [x]).getD i m0 = E.getD i m0 := eg_left (d := ⟨l, E⟩) (x := x) (show i < E.length by omega)
      rw [hx]
      exact ⟨(hEt i (by omega)).1, fun j' h1 h2 => (hEt i (by omega)).2 j' (by omega) h2⟩
  · rw [hlen]; exact setRow_heap _ _ _ _ _ _ hQ
  · rw [hlen, ev_snoc]
    exact kept_ne hO2 hs (fun g e => by cases e; exact own_not hO2 hQ (by decide))
  · exact gb_far (gb_own (gb_trans hB (gb_row (gb_of_below hba))) hgr (fun g e => by have := (hO.lt g e).1; omega)) (by omega) _
  · exact tape_set (tape_kept (tape_below hT hba) hgr (fun g e => by have := (hO.lt g e).1; omega)) (by omega) _
set_option maxRecDepth 100000 in
set_option maxHeartbeats 4000000 in
theorem directory_any (T : Nat) (w : World) (h : TapeOk w T) (hT : T < w.heap.size) :
    Calls Tryz.prog 10 #[.pointer (some ⟨T, 0, none⟩)] w (DrPost T w) := by
  have HT := Lib.hid h
  have HG := Lib.hid (gb_row (gb_of_below (Below.refl _ w)) : w.grownBy w (some T))
  clear h
  obtain ⟨i0, hi1, hz0, hz1, hz2⟩ := info_parts zinfo3
  have HI := Lib.hid hi1
  have HI0 := Lib.hid hz0
  have HI1 := Lib.hid hz1
  have HI2 := Lib.hid hz2
  obtain ⟨j0, hj1, hy0, hy1, hy2⟩ := info_parts zinfo52
  have HJ := Lib.hid hj1
  have HJ0 := Lib.hid hy0
  have HJ1 := Lib.hid hy1
  have HJ2 := Lib.hid hy2
  clear hi1 hz0 hz1 hz2 hj1 hy0 hy1 hy2
  obtain ⟨-, z0, z1, z2, hb0⟩ := boxes3 w (.cells #[.slice none 0 0, .slice none 0 0] 25) (.cells #[.int .i64 1] 3) (.cells #[.slice (some ⟨w.heap.size + 1, 0, none⟩) 1 1, .slice none 0 0] 25)
  have R0 := Lib.hid z0
  have R2 := Lib.hid z2
  have HO0 := Lib.hid (full_own (xs := iv [1]) (B := w.heap.size + 1) (n := 1) z1 (Nat.le_refl _) rfl (by omega))
  have HT0 := Lib.hid (tape_below HT.out hb0)
  have HG0 := Lib.hid (gb_row (gb_of_below hb0) : w.grownBy _ (some T))
  clear z0 z1 z2 hb0
  go_enter Tryz.func10, Tryz.ntmps10
  go_wp2_with fail
  generalize ((w.alloc (.cells #[.slice none 0 0, .slice none 0 0] 25)).alloc (.cells #[.int .i64 1] 3)).alloc (.cells #[.slice (some ⟨w.heap.size + 1, 0, none⟩) 1 1, .slice none 0 0] 25) = W0 at *
  refine (between_any T 2 6 _ HT0.out (by omega) (by omega) (by omega) (by omega)).mono ?_
  rintro e w1 ⟨r, hr0, hr1, rfl, hg1, ht1⟩
  obtain ⟨n, rfl⟩ : ∃ k : Nat, r = k := ⟨r.toNat, by omega⟩
  have S0 := Lib.hid ((hg1.block _ (row_lt R0.out) (by simp; omega)).trans R0.out)
  have S2 := Lib.hid ((hg1.block _ (row_lt R2.out) (by simp; omega)).trans R2.out)
  have HO1 := Lib.hid (own_keepT HO0.out hg1 (by omega))
  have HG1 := Lib.hid (gb_trans HG0.out hg1)
  have HT1 := Lib.hid ht1
  clear hg1 ht1
  go_wp2_with fail
  go_loopw [4] (fun kk wr => ∃ k : Nat, k ≤ 6 ∧ kk = .int .i64 k ∧ K1 T w k wr) (fun kk _ => (intOf kk).toNat)
  case atStart => exact ⟨n, by omega, rfl, [1], some ⟨w.heap.size + 1, 0, none⟩, 1, by simp; omega, by simp, fun i hi => by simp at hi; subst hi; exact ⟨by decide, by decide⟩, S2.out, HO1.out, S0.out, HG1.out, HT1.out⟩
  case round =>
    clear R0 R2 HO0 HT0 HG0 S0 S2 HO1 HG1 HT1
    obtain ⟨k, hk, rfl, l, A, c', hlk, hl1, hl, hrow, hown, hz, hgb, htp⟩ := hrel
    have HROW := Lib.hid hrow
    have HOWN := Lib.hid hown
    have HZ := Lib.hid hz
    have HGB := Lib.hid hgb
    have HTP := Lib.hid htp
    have HLL := Lib.hid hl
    have lr := row_lt hrow
    clear hrow hown hz hgb htp hl
    cases k with
    | succ k =>
      have k0 : (0 : Int) < ((k + 1 : Nat) : Int) := by omega
      have g0 := cell_of_row _ _ 0 _ _ _ HROW.out
      have g0 : wr.cell? ⟨w.heap.size + 1 + 1, 0, none⟩ = some (.slice A l.length c') := g0
      have g0' : wr.drew.cell? ⟨w.heap.size + 1 + 1, 0, none⟩ = some (.slice A l.length c') := g0
      have HPK := Lib.hid (fun (w' : World) (h : TapeOk w' T) (hr : Row w' wr.heap.size 1 (some ⟨wr.heap.size, 0, none⟩) 4 (iv [2, 2, 1, 3])) => pick_any T wr.heap.size 4 4 (some ⟨wr.heap.size, 0, none⟩) [2, 2, 1, 3] w' h hr (by have := HGB.out.size; omega) (by omega) (by omega))
      have HLR := Lib.hid (lits_row wr wr.heap.size rfl [2, 2, 1, 3] #[.int .i64 2, .int .i64 2, .int .i64 1, .int .i64 3] rfl 3)
      have hba := box_below wr (.cells #[.int .i64 2, .int .i64 2, .int .i64 1, .int .i64 3] 3)
      have HBA := Lib.hid hba
      have HTA := Lib.hid (tape_below HTP.out hba)
      clear hba
      go_wp2_with fail
      go_region_law (first
        | (go_simp; go_at_call 39; (with_reducible refine (HPK.out _ ?_ ?_).mono ?_); (first | exact HTA.out | exact tape_below HTA.out (Below.refl _ _).drew); (first | exact HLR.out | exact HLR.out.drew); (rintro e w2 ⟨z, hz4, rfl, hg2, ht2⟩; have hg2' : wr.grownBy w2 (some T) := gb_trans (gb_row (gb_of_below HBA.out)) ⟨hg2.os, hg2.tape, hg2.output, hg2.size, hg2.block⟩; obtain ⟨s, hs⟩ : ∃ s, ([2, 2, 1, 3] : List Nat).getD z 0 = s := ⟨_, rfl⟩; have hs13 : 1 ≤ s ∧ s ≤ 3 := (by rw [← hs]; have hz5 : z < 4 := hz4; rcases (by omega : z = 0 ∨ z = 1 ∨ z = 2 ∨ z = 3) with rfl | rfl | rfl | rfl <;> decide); rw [hs]; have HS13 := Lib.hid hs13; have hq2 := (hg2'.block _ lr (fun e => by injection e; omega)).trans HROW.out; have u0 : w2.cell? ⟨w.heap.size + 1 + 1, 0, none⟩ = some (.slice A l.length c') := cell_of_row _ _ 0 _ _ _ hq2; have Q2 := Lib.hid hq2; have Z2 := Lib.hid ((hg2'.block _ (row_lt HZ.out) (fun e => by injection e; omega)).trans HZ.out); have O2 := Lib.hid (own_keepT HOWN.out hg2' (by omega)); have G2 := Lib.hid (gb_trans HGB.out hg2'); have T2 := Lib.hid ht2; have l2 := row_lt hq2; have hbs : w.heap.size + 1 ≤ (w2.alloc (.cells #[.int .i64 (s : Int)] 3)).heap.size := (by simp; omega); have hll : l.length + 1 ≤ 100000 := (by omega); have hone : ∀ u ∈ [Value.int .i64 (s : Int)], u.oneCell' = true := (by simp [Value.oneCell']); clear hg2 hg2' ht2 hq2 hs hs13 hz4))
        | ((refine app_step (by rfl) (.tmp 20) (.tmp 24) (w.heap.size + 1) 0 22 3 (by rfl) i0 (.int .i64 0) 1 8 Tryz.underlying22 HI.out HI0.out HI1.out HI2.out rfl (by omega) (.slice A l.length c') l.length (iv l) (by rfl) ?_ (some ⟨w2.heap.size, 0, none⟩) 1 1 [.int .i64 (s : Int)] (by rfl) ?_ hone hll (by omega) hbs ?_); (exact O2.out.alloc _); (first | exact (new_one w2 _ _).drew | exact new_one w2 _ _); (intro v' w6 hown hgr0 _; have hgr : (w2.alloc (.cells #[.int .i64 (s : Int)] 3)).grownBy w6 (Value.slice A l.length c').ownBlock := (by first | exact hgr0 | exact gb_undrew hgr0); obtain ⟨A', k', rfl⟩ := own_form hown; have hn6 := own_not (O2.out.alloc (.cells #[.int .i64 (s : Int)] 3)) ((heap_alloc_old _ _ l2).trans Q2.out) (by decide); have hn7 := own_not (O2.out.alloc (.cells #[.int .i64 (s : Int)] 3)) ((heap_alloc_old _ _ (row_lt Z2.out)).trans Z2.out) (by decide); have hq6 := ((hgr.block (w.heap.size + 1 + 1) (by simp; omega) (fun e => hn6 e.symm)).trans (heap_alloc_old _ _ l2)).trans Q2.out; have f6 : w6.frozen? ⟨w.heap.size + 1 + 1, 0, none⟩ = false := frozen_of_row _ _ _ _ _ hq6; have u6 : w6.cell? ⟨w.heap.size + 1 + 1, 0, none⟩ = some (.slice A l.length c') := cell_of_row _ _ 0 _ _ _ hq6; have Q6 := Lib.hid hq6; have Z6 := Lib.hid (((hgr.block w.heap.size (by simp; omega) (fun e => hn7 e.symm)).trans (heap_alloc_old _ _ (row_lt Z2.out))).trans Z2.out); have O6 := Lib.hid hown; have GR := Lib.hid hgr; clear hown hgr hgr0 hq6 hn6 hn7)))
      all_goals
        have e7 := setCell_eq_setRow w6 (w.heap.size + 1 + 1) 0 _ _ _ (.slice A' (l.length + 1) k') Q6.out
        rw [e7]
        have hq7 := setRow_heap _ _ _ ((#[.slice A l.length c', .slice none 0 0] : Array Value).setIfInBounds 0 (.slice A' (l.length + 1) k')) _ _ Q6.out
        have G6 := Lib.hid (gb_own (gb_trans G2.out (gb_row (gb_of_below (box_below w2 _)))) GR.out (fun g e => by have := (O2.out.lt g e).1; omega))
        have T6 := Lib.hid (tape_kept (tape_new2 T2.out _) GR.out (fun g e => by have := (O2.out.lt g e).1; omega))
        have O7 := Lib.hid (kept_ne O6.out (gb_setRow w6 (w.heap.size + 1 + 1) ((#[.slice A l.length c', .slice none 0 0] : Array Value).setIfInBounds 0 (.slice A' (l.length + 1) k'))) (fun g e => by cases e; exact own_not O6.out Q6.out (by decide)))
        have Z7 := Lib.hid ((setRow_other w6 (w.heap.size + 1 + 1) w.heap.size ((#[.slice A l.length c', .slice none 0 0] : Array Value).setIfInBounds 0 (.slice A' (l.length + 1) k')) (by omega)).trans Z6.out)
        have G7 := Lib.hid (gb_far G6.out (show w.heap.size ≤ w.heap.size + 1 + 1 by omega) ((#[.slice A l.length c', .slice none 0 0] : Array Value).setIfInBounds 0 (.slice A' (l.length + 1) k')))
        have T7 := Lib.hid (tape_set T6.out (show T < w.heap.size + 1 + 1 by omega) ((#[.slice A l.length c', .slice none 0 0] : Array Value).setIfInBounds 0 (.slice A' (l.length + 1) k')))
        have Q7 := Lib.hid hq7
        clear hq7 e7 g0 g0' u0 u6 f6 hone
        generalize w6.setRow (w.heap.size + 1 + 1) ((#[.slice A l.length c', .slice none 0 0] : Array Value).setIfInBounds 0 (.slice A' (l.length + 1) k')) = W7 at *
        have HLX := Lib.hid (HLL.out.snoc HS13.out.1 HS13.out.2)
        have hlx : (l ++ [s]).length = l.length + 1 := by simp
        have HSN := Lib.hid (iv_snoc l s)
        go_wp2_with fail
        exact ⟨⟨k, by omega, by go_num, l ++ [s], A', k', by rw [hlx]; omega, by rw [hlx]; omega, HLX.out, by rw [hlx]; exact Q7.out, by rw [hlx, HSN.out]; exact O7.out, Z7.out, G7.out, T7.out⟩, by simp [intOf]⟩
    | zero =>
      have e00 : ((0 : Nat) : Int) = 0 := rfl
      simp only [e00]
      clear e00
      obtain ⟨g0, g1⟩ := gc2 HROW.out
      go_wp2_with fail
      clear g0 g1
      generalize wr = W2 at *
      obtain ⟨p, hp⟩ : ∃ p : Nat → Bool, (fun i => l.getD i 0 == 2) = p := ⟨_, rfl⟩
      have HP := Lib.hid hp
      have HB2 := Lib.hid (Below.refl W2.heap.size W2)
      have HR2 := Lib.hid (row_of_own HOWN.out)
      clear hp
      go_loopw [5, 30] (fun ov ii wv => ∃ k : Nat, k ≤ l.length ∧ ii = .int .i64 k ∧ wv.ownsRow W2.heap.size 3 1 ov (cnt p k) (iv (idx p k)) ∧ Below W2.heap.size W2 wv) (fun _ ii _ => l.length - (intOf ii).toNat)
      case atStart => exact ⟨0, by omega, rfl, own_nil _ _ _ _, HB2.out⟩
      case round =>
        obtain ⟨k, hk, rfl, hown, hbl⟩ := hrel
        rename World => wv
        have HOK := Lib.hid hown
        have HBL := Lib.hid hbl
        have hsz := hbl.size
        have hcn := cnt_le p k
        by_cases hlt : k < l.length
        · obtain ⟨b, off, rfl, -, -, y0⟩ := (HR2.out.below hbl).int hlt
          have hpk : p k = (l.getD k 0 == 2) := by rw [← HP.out]
          have j0 : (0 : Int) ≤ (k : Int) := by omega
          have j1 : (k : Int) < (l.length : Int) := by omega
          have hq : (((l.getD k 0 : Nat) : Int) == 2) = (l.getD k 0 == 2) := by
            by_cases e : l.getD k 0 = 2
            · rw [e]; rfl
            · rw [beq_eq_false_iff_ne.2 e, beq_eq_false_iff_ne.2 (by omega)]
          rw [← hpk] at hq
          generalize l.getD k 0 = y at *
          clear hown hbl hpk HB2
          cases hpk : p k with
          | true =>
            rw [hpk] at hq
            have HCN := Lib.hid (show cnt p (k + 1) = cnt p k + 1 by rw [cnt, if_pos hpk])
            have HIX := Lib.hid (show iv (idx p (k + 1)) = iv (idx p k) ++ [.int .i64 (k : Int)] by rw [idx, if_pos hpk, iv_snoc])
            clear hpk
            go_wp2_with (at_builtin; refine wpList_append_own _ rfl (.tmp 37) (.tmp 39) 22 rfl W2.heap.size 3 i0 (.int .i64 0) 1 8 Tryz.underlying22 HI.out HI0.out HI1.out HI2.out rfl (by decide) _ (cnt p k) (iv (idx p k)) rfl (HOK.out.alloc _) ⟨wv.heap.size, 0, none⟩ 1 1 [.int .i64 (k : Int)] rfl rfl (World.news_of_block (heap_alloc_new wv _)) (by simp [Value.oneCell']) (by unfold maxLen; omega) (by omega) (by simp; omega) ?_; intro v' w6 hown hgr _; have HOWN6 := Lib.hid hown; have HB6 := Lib.hid (far_below HBL.out HOK.out hgr (Nat.le_refl _)); clear hown hgr)
            exact ⟨⟨k + 1, by omega, by go_num, by rw [HCN.out, HIX.out]; exact HOWN6.out, HB6.out⟩, by simp [intOf]; omega⟩
          | false =>
            rw [hpk] at hq
            have HCN := Lib.hid (show cnt p (k + 1) = cnt p k by rw [cnt, if_neg (by rw [hpk]; decide)]; rfl)
            have HIX := Lib.hid (show idx p (k + 1) = idx p k by rw [idx, if_neg (by rw [hpk]; decide)])
            clear hpk
            go_wp2_with fail
            exact ⟨⟨k + 1, by omega, by go_num, by rw [HCN.out, HIX.out]; exact HOK.out, HBL.out⟩, by simp [intOf]; omega⟩
        · obtain rfl : l.length = k := by omega
          obtain ⟨Ag, cg, rfl⟩ := own_form HOK.out
          have HZ3 := Lib.hid ((hbl.block _ (row_lt HZ.out)).trans HZ.out)
          have HR3 := Lib.hid ((hbl.block _ lr).trans HROW.out)
          have HO3 := Lib.hid (own_below HOWN.out hbl)
          have HT3 := Lib.hid (tape_below HTP.out hbl)
          have HG3 := Lib.hid (gb_trans HGB.out (gb_row (gb_of_below hbl)))
          clear hown hbl HB2
          by_cases h0 : cnt p l.length = 0
          · have e0 : ((cnt p l.length : Int) == 0) = true := by rw [h0]; rfl
            obtain ⟨g0, g1⟩ := gc2 HR3.out
            obtain ⟨z0, z1, z2, z3⟩ := zdCells HZ3.out
            clear h0
            have HRC := Lib.hid HR3.out
            go_wp2_with fail
            rw [set2row HZ3.out rfl]
            have hmk : Mk ⟨l, []⟩ := ⟨⟨by show l.length ≤ 24; omega, by show 0 ≤ 120; omega, HLL.out, fun j hj => absurd hj (by simp), fun j hj => absurd hj (by simp)⟩, hl1, by show l.length ≤ 7; omega, by show 0 ≤ 11; omega, fun j hj => absurd hj (by simp)⟩
            have hdl : DL (wv.setRow w.heap.size #[.slice A l.length c', .slice none 0 0]) (w.heap.size + 1) ⟨l, []⟩ ⟨A, c', none, 0⟩ := ⟨(row_of_own HO3.out).set (Nat.lt_succ_self _) _, ⟨rfl, fun h => (Nat.lt_irrefl 0 h).elim⟩⟩
            exact bodyPost_ret (v := .agg (gd ⟨l, []⟩ ⟨A, c', none, 0⟩)) (results_cell_row rfl _ _ w.heap.size 25 (gd ⟨l, []⟩ ⟨A, c', none, 0⟩) (0, 0) _ rfl (setRow_heap _ _ _ _ _ _ HZ3.out) Tryz.underlying25 rfl (info25 _ _)) rfl ⟨_, _, rfl, hmk, hdl, gb_far HG3.out (Nat.le_refl _) _, tape_set HT3.out hT _⟩
          · have e0 : ((cnt p l.length : Int) == 0) = false := beq_eq_false_iff_ne.2 (by omega)
            have hpm : ∀ r, r < cnt p l.length → (idx p l.length).getD r 0 < l.length ∧ l.getD ((idx p l.length).getD r 0) 0 = 2 := fun r hr => by
              rw [← idx_len] at hr
              have hm : (idx p l.length).getD r 0 ∈ idx p l.length := by
                rw [List.getD_eq_getElem?_getD, List.getElem?_eq_getElem hr]
                exact List.getElem_mem hr
              obtain ⟨h1, h2⟩ := (idx_mem p _ _).1 hm
              have h3 : (l.getD ((idx p l.length).getD r 0) 0 == 2) = true := by rw [← h2, ← HP.out]
              exact ⟨h1, beq_iff_eq.1 h3⟩
            have hcl := cnt_le p l.length
            have HPM := Lib.hid hpm
            have HC0 : 1 ≤ cnt p l.length := by omega
            clear hpm h0
            go_wp2_with fail
            refine (next_any T 12 _ HT3.out (by omega) (by omega)).mono ?_
            rintro e w4 ⟨zm, zm0, zm1, rfl, hg4, ht4⟩
            obtain ⟨m, rfl⟩ : ∃ k : Nat, zm = k := ⟨zm.toNat, by omega⟩
            have hT4 : T < w4.heap.size := by have := (gb_trans HG3.out hg4).size; omega
            have HCK := Lib.hid (clock_any T m w4 ht4 hT4 (by omega))
            have HG4 := Lib.hid hg4
            clear hg4 ht4 e0
            go_wp2_with fail
            refine HCK.out.mono ?_
            rintro e w5 ⟨cl, Ac, cc, rfl, hcll, hasc, hcown, hg5, ht5⟩
            have hg45 := gb_trans HG4.out hg5
            have HZ5 := Lib.hid ((hg45.block _ (row_lt HZ3.out) (fun e => by injection e; omega)).trans HZ3.out)
            have HR5 := Lib.hid ((hg45.block _ (row_lt HR3.out) (fun e => by injection e; omega)).trans HR3.out)
            have HO5 := Lib.hid (own_keepT HO3.out hg45 (by omega))
            have HOG5 := Lib.hid (own_base (own_keepT HOK.out hg45 (by have := HGB.out.size; omega)) (show w.heap.size + 1 ≤ W2.heap.size by omega))
            have HG5 := Lib.hid (gb_trans HG3.out hg45)
            have HOC5 := Lib.hid (own_base hcown (show w.heap.size + 1 ≤ w4.heap.size by have := (gb_trans HG3.out HG4.out).size; have := row_lt HR3.out; have := HG4.out.size; omega))
            have HT5 := Lib.hid ht5
            have HCL := Lib.hid hcll
            have HAS := Lib.hid hasc
            clear hg45 hg5 ht5 hcll hasc hcown HCK
            go_wp2_with fail
            clear HZ3 HR3 HO3 HT3 HG3 HOK HBL hsz HG4 HROW HOWN HZ HGB HTP HR2
            go_loopw [51] (fun jj wr => ∃ j : Nat, j ≤ m ∧ jj = .int .i64 (j : Int) ∧ L3 T w l A c' (idx p l.length) (.slice Ag (cnt p l.length) cg) (cnt p l.length) cl (.slice Ac m cc) m j wr) (fun jj _ => m - (intOf jj).toNat)
            case atStart => exact ⟨0, by omega, rfl, [], none, 0, by simp, ⟨by show l.length ≤ 24; omega, by show 0 ≤ 120; omega, HLL.out, fun j hj => absurd hj (by simp), fun j hj => absurd hj (by simp)⟩, fun i hi => absurd hi (by simp), HR5.out, own_nil _ _ _ _, HO5.out, HOG5.out, HOC5.out, HZ5.out, HG5.out, HT5.out⟩
            case round =>
              obtain ⟨j, hj, rfl, E, Ae, ce, hEj, hok, hEt, hrow, hoe, hok', hog, hoc, hz, hgb, htp⟩ := hrel
              rename World => wr
              have HOKD := Lib.hid hok
              have HET := Lib.hid hEt
              have HROW := Lib.hid hrow
              have HOE := Lib.hid hoe
              have HOK := Lib.hid hok'
              have HOG := Lib.hid hog
              have HOC := Lib.hid hoc
              have HZ := Lib.hid hz
              have HGB := Lib.hid hgb
              have HTP := Lib.hid htp
              have lr := row_lt hrow
              clear HZ5 HR5 HO5 HOG5 HOC5 HG5 HT5 hok hEt
              by_cases hlt : j < m
              · obtain ⟨b, off, e6, -, -, y0⟩ := (row_of_own hoc).int hlt
                have hAc : Ac = some ⟨b, off, none⟩ := e6
                subst hAc
                obtain ⟨tm, htm⟩ : ∃ t, cl.getD j 0 = t := ⟨_, rfl⟩
                rw [htm] at y0
                have HTM := Lib.hid htm
                obtain ⟨g0, g1⟩ := gc2 hrow
                have i0' : (0 : Int) ≤ (j : Int) := by omega
                have i1' : (j : Int) < (m : Int) := by omega
                have hTr : T < wr.heap.size := by omega
                clear hrow hoe hok' hog hoc hz hgb htp htm
                go_wp2_with fail
                refine (next_any T l.length _ HTP.out (by omega) (by omega)).mono ?_
                rintro e w6 ⟨zp, zp0, zp1, rfl, hg6, ht6⟩
                obtain ⟨pp, rfl⟩ : ∃ k : Nat, zp = k := ⟨zp.toNat, by omega⟩
                have HG6 := Lib.hid hg6
                have HT6 := Lib.hid ht6
                clear hg6 ht6 y0 g0 g1
                go_wp2_with fail
                refine (next_any T (cnt p l.length) _ HT6.out (by omega) (by omega)).mono ?_
                rintro e w7 ⟨zr, zr0, zr1, rfl, hg7, ht7⟩
                obtain ⟨r, rfl⟩ : ∃ k : Nat, zr = k := ⟨zr.toNat, by omega⟩
                have hg67 := gb_trans HG6.out hg7
                obtain ⟨hgl, hg2⟩ := HPM.out r (by omega)
                obtain ⟨b2, off2, e7, -, -, y1⟩ := (row_of_own (own_keepT HOG.out hg67 (by omega))).int (i := r) (by omega)
                have hAg : Ag = some ⟨b2, off2, none⟩ := e7
                subst hAg
                generalize (idx p l.length).getD r 0 = gg at *
                have HG67 := Lib.hid hg67
                have HT7 := Lib.hid ht7
                have HGL := Lib.hid (And.intro hgl hg2)
                have r0 : (0 : Int) ≤ (r : Int) := by omega
                have r1 : (r : Int) < (cnt p l.length : Int) := by omega
                have hba := box_below w7 (.cells #[.int .i64 (tm : Int), .int .i64 1, .int .i64 (pp : Int), .int .i64 (gg : Int)] 79)
                have HT8 := Lib.hid (tape_below ht7 hba)
                have HG8 := Lib.hid (gb_trans hg67 (gb_row (gb_of_below hba)))
                have HX8 := Lib.hid (heap_alloc_new w7 (.cells #[.int .i64 (tm : Int), .int .i64 1, .int .i64 (pp : Int), .int .i64 (gg : Int)] 79))
                clear hg7 ht7 hg67 hba hgl hg2
                go_wp2_with fail
                refine (next_any T 4 _ HT8.out (by omega) (by omega)).mono ?_
                rintro e w9 ⟨z, z0, z1, rfl, hg9, ht9⟩
                have hs6 := HG67.out.size
                have HX9 := Lib.hid ((hg9.block _ (row_lt HX8.out) (fun e => by injection e; omega)).trans HX8.out)
                have HG9 := Lib.hid (gb_trans HG8.out hg9)
                have HT9 := Lib.hid ht9
                clear hg9 ht9 y1 HX8 HG8 HT8
                by_cases hz3 : z = 3
                · subst hz3
                  have xf : w9.frozen? ⟨w7.heap.size, 1, none⟩ = false := frozen_of_row _ _ _ _ _ HX9.out
                  have xo := (xc4 HX9.out).2.1
                  obtain ⟨W10, hW⟩ : ∃ W10, w9.setCell ⟨w7.heap.size, 1, none⟩ (.int .i64 2) = W10 := ⟨_, rfl⟩
                  have HX10 := Lib.hid (show W10.heap[w7.heap.size]? = some (.cells #[.int .i64 (tm : Int), .int .i64 2, .int .i64 (pp : Int), .int .i64 (gg : Int)] 79 (0, 0)) from by rw [← hW, setCell_eq_setRow _ _ _ _ _ _ _ HX9.out]; exact setRow_heap _ _ _ _ _ _ HX9.out)
                  have HGX := Lib.hid (show wr.grownBy W10 (some T) from by rw [← hW]; exact gb_far1 HG9.out hs6)
                  have T10 := Lib.hid (show TapeOk W10 T from by rw [← hW]; exact tape_far1 HT9.out (by omega))
                  have D10 := Lib.hid ((HGX.out.block _ lr (fun e => by injection e; omega)).trans HROW.out)
                  have Z10 := Lib.hid ((HGX.out.block _ (row_lt HZ.out) (fun e => by injection e; omega)).trans HZ.out)
                  have O10 := Lib.hid (own_keepT HOE.out HGX.out (by omega))
                  have K10 := Lib.hid (own_keepT HOK.out HGX.out (by omega))
                  have OG10 := Lib.hid (own_keepT HOG.out HGX.out (by omega))
                  have OC10 := Lib.hid (own_keepT HOC.out HGX.out (by omega))
                  have G10 := Lib.hid (gb_trans HGB.out HGX.out)
                  obtain ⟨d0, d1⟩ := gc2 D10.out
                  obtain ⟨x0, x1, x2, x3⟩ := xc4 HX10.out
                  by_cases hpg : pp = gg
                  · have e5 : ((pp : Int) != (gg : Int)) = false := by rw [hpg]; simp
                    have HFIN := Lib.hid (L3.same HOKD.out HET.out hEj D10.out O10.out K10.out OG10.out OC10.out Z10.out G10.out T10.out)
                    clear hpg
                    go_wp2_with fail
                    exact ⟨⟨j + 1, by omega, by go_num, HFIN.out⟩, by simp [intOf]; omega⟩
                  · have HPG := Lib.hid hpg
                    have e5 : ((pp : Int) != (gg : Int)) = true := by rw [bne, beq_eq_false_iff_ne.2 (show (pp : Int) ≠ (gg : Int) by omega)]; rfl
                    clear hpg
                    go_wp2_with (at_builtin; refine wpList_append_own _ rfl (.tmp 79) (.tmp 81) 23 rfl (w.heap.size + 1) 79 j0 (.agg #[.int .i64 0, .int .i64 0, .int .i64 0, .int .i64 0]) 4 32 Tryz.underlying23 HJ.out HJ0.out HJ1.out HJ2.out rfl (by decide) _ E.length (ev E) rfl (O10.out.alloc _) ⟨W10.heap.size, 0, none⟩ 1 1 [.int .i64 (tm : Int), .int .i64 2, .int .i64 (pp : Int), .int .i64 (gg : Int)] rfl rfl (World.news_of_block (heap_alloc_new W10 _)) (by simp [Value.oneCell']) (by unfold maxLen; omega) (by omega) (by have := D10.out; have := row_lt this; simp; omega) ?_; intro v' w12 hown hgr _; obtain ⟨Ae', ce', rfl⟩ := own_form hown; have hn6 := own_not (O10.out.alloc (.cells #[.int .i64 (tm : Int), .int .i64 2, .int .i64 (pp : Int), .int .i64 (gg : Int)] 79)) ((heap_alloc_old _ _ (row_lt D10.out)).trans D10.out) (by decide); have hn7 := own_not (O10.out.alloc (.cells #[.int .i64 (tm : Int), .int .i64 2, .int .i64 (pp : Int), .int .i64 (gg : Int)] 79)) ((heap_alloc_old _ _ (row_lt Z10.out)).trans Z10.out) (by decide); have hq6 := ((hgr.block (w.heap.size + 1 + 1) (by have := row_lt D10.out; simp; omega) (fun e => hn6 e.symm)).trans (heap_alloc_old _ _ (row_lt D10.out))).trans D10.out; have f6 : w12.frozen? ⟨w.heap.size + 1 + 1, 1, none⟩ = false := frozen_of_row _ _ _ _ _ hq6; have u6 := (gc2 hq6).2; have Q6 := Lib.hid hq6; have Z6 := Lib.hid (((hgr.block w.heap.size (by have := row_lt Z10.out; simp; omega) (fun e => hn7 e.symm)).trans (heap_alloc_old _ _ (row_lt Z10.out))).trans Z10.out); have O6 := Lib.hid hown; have GR := Lib.hid hgr; clear hown hgr hq6 hn6 hn7 d0 d1 x0 x1 x2 x3)
                    rw [setCell_eq_setRow w12 (w.heap.size + 1 + 1) 1 _ _ _ (.slice Ae' (E.length + 1) ce') Q6.out]
                    refine ⟨⟨j + 1, by omega, by go_num, ?_⟩, by simp [intOf]; omega⟩
                    exact L3.close HOKD.out HET.out hEj hlt (by omega) HAS.out HCL.out HTM.out (x := ⟨tm, 2, pp, gg⟩) (.inr rfl) (by show pp < l.length; omega) HGL.out.1 HGL.out.2 HPG.out O10.out K10.out OG10.out OC10.out D10.out G10.out T10.out hT GR.out O6.out Q6.out Z6.out
                · have hz4 : (z == 3) = false := beq_eq_false_iff_ne.2 hz3
                  have HX10 := HX9
                  have HGX := HG9
                  have T10 := HT9
                  generalize w9 = W10 at *
                  have D10 := Lib.hid ((HGX.out.block _ lr (fun e => by injection e; omega)).trans HROW.out)
                  have Z10 := Lib.hid ((HGX.out.block _ (row_lt HZ.out) (fun e => by injection e; omega)).trans HZ.out)
                  have O10 := Lib.hid (own_keepT HOE.out HGX.out (by omega))
                  have K10 := Lib.hid (own_keepT HOK.out HGX.out (by omega))
                  have OG10 := Lib.hid (own_keepT HOG.out HGX.out (by omega))
                  have OC10 := Lib.hid (own_keepT HOC.out HGX.out (by omega))
                  have G10 := Lib.hid (gb_trans HGB.out HGX.out)
                  obtain ⟨d0, d1⟩ := gc2 D10.out
                  obtain ⟨x0, x1, x2, x3⟩ := xc4 HX10.out
                  by_cases hpg : pp = gg
                  · have e5 : ((pp : Int) != (gg : Int)) = false := by rw [hpg]; simp
                    have HFIN := Lib.hid (L3.same HOKD.out HET.out hEj D10.out O10.out K10.out OG10.out OC10.out Z10.out G10.out T10.out)
                    clear hpg
                    go_wp2_with fail
                    exact ⟨⟨j + 1, by omega, by go_num, HFIN.out⟩, by simp [intOf]; omega⟩
                  · have HPG := Lib.hid hpg
                    have e5 : ((pp : Int) != (gg : Int)) = true := by rw [bne, beq_eq_false_iff_ne.2 (show (pp : Int) ≠ (gg : Int) by omega)]; rfl
                    clear hpg
                    go_wp2_with (at_builtin; refine wpList_append_own _ rfl (.tmp 79) (.tmp 81) 23 rfl (w.heap.size + 1) 79 j0 (.agg #[.int .i64 0, .int .i64 0, .int .i64 0, .int .i64 0]) 4 32 Tryz.underlying23 HJ.out HJ0.out HJ1.out HJ2.out rfl (by decide) _ E.length (ev E) rfl (O10.out.alloc _) ⟨W10.heap.size, 0, none⟩ 1 1 [.int .i64 (tm : Int), .int .i64 1, .int .i64 (pp : Int), .int .i64 (gg : Int)] rfl rfl (World.news_of_block (heap_alloc_new W10 _)) (by simp [Value.oneCell']) (by unfold maxLen; omega) (by omega) (by have := D10.out; have := row_lt this; simp; omega) ?_; intro v' w12 hown hgr _; obtain ⟨Ae', ce', rfl⟩ := own_form hown; have hn6 := own_not (O10.out.alloc (.cells #[.int .i64 (tm : Int), .int .i64 1, .int .i64 (pp : Int), .int .i64 (gg : Int)] 79)) ((heap_alloc_old _ _ (row_lt D10.out)).trans D10.out) (by decide); have hn7 := own_not (O10.out.alloc (.cells #[.int .i64 (tm : Int), .int .i64 1, .int .i64 (pp : Int), .int .i64 (gg : Int)] 79)) ((heap_alloc_old _ _ (row_lt Z10.out)).trans Z10.out) (by decide); have hq6 := ((hgr.block (w.heap.size + 1 + 1) (by have := row_lt D10.out; simp; omega) (fun e => hn6 e.symm)).trans (heap_alloc_old _ _ (row_lt D10.out))).trans D10.out; have f6 : w12.frozen? ⟨w.heap.size + 1 + 1, 1, none⟩ = false := frozen_of_row _ _ _ _ _ hq6; have u6 := (gc2 hq6).2; have Q6 := Lib.hid hq6; have Z6 := Lib.hid (((hgr.block w.heap.size (by have := row_lt Z10.out; simp; omega) (fun e => hn7 e.symm)).trans (heap_alloc_old _ _ (row_lt Z10.out))).trans Z10.out); have O6 := Lib.hid hown; have GR := Lib.hid hgr; clear hown hgr hq6 hn6 hn7 d0 d1 x0 x1 x2 x3)
                    rw [setCell_eq_setRow w12 (w.heap.size + 1 + 1) 1 _ _ _ (.slice Ae' (E.length + 1) ce') Q6.out]
                    refine ⟨⟨j + 1, by omega, by go_num, ?_⟩, by simp [intOf]; omega⟩
                    exact L3.close HOKD.out HET.out hEj hlt (by omega) HAS.out HCL.out HTM.out (x := ⟨tm, 1, pp, gg⟩) (.inl rfl) (by show pp < l.length; omega) HGL.out.1 HGL.out.2 HPG.out O10.out K10.out OG10.out OC10.out D10.out G10.out T10.out hT GR.out O6.out Q6.out Z6.out
              · obtain rfl : m = j := by omega
                obtain ⟨g0, g1⟩ := gc2 hrow
                obtain ⟨z0, z1, z2, z3⟩ := zdCells hz
                clear hrow hoe hok' hog hoc hz hgb htp
                go_wp2_with fail
                rw [set2row HZ.out rfl]
                have hmk : Mk ⟨l, E⟩ := ⟨HOKD.out, hl1, by show l.length ≤ 7; omega, by show E.length ≤ 11; omega, fun i hi => (HET.out i hi).1⟩
                have hdl : DL (wr.setRow w.heap.size #[.slice A l.length c', .slice Ae E.length ce]) (w.heap.size + 1) ⟨l, E⟩ ⟨A, c', Ae, ce⟩ := ⟨(row_of_own HOK.out).set (Nat.lt_succ_self _) _, (row_of_own HOE.out).set (Nat.lt_succ_self _) _⟩
                exact bodyPost_ret (v := .agg (gd ⟨l, E⟩ ⟨A, c', Ae, ce⟩)) (results_cell_row rfl _ _ w.heap.size 25 (gd ⟨l, E⟩ ⟨A, c', Ae, ce⟩) (0, 0) _ rfl (setRow_heap _ _ _ _ _ _ HZ.out) Tryz.underlying25 rfl (info25 _ _)) rfl ⟨_, _, rfl, hmk, hdl, gb_far HGB.out (Nat.le_refl _) _, tape_set HTP.out hT _⟩
/-- Estates that the maker gives. -/
structure MkE (a : Es) : Prop where
  ok : Eok a
  n4 : a.n ≤ 4
  m15 : a.e.length ≤ 15
  t : ∀ j, j < a.e.length → (ag a.e j).t ≤ 44
/-- While the events are made. -/
def ERel (T Q : Nat) (n : Int) (w : World) (d : Dy) (v : Vd) (cl : List Nat) (Acl : Option Addr) (cc m j : Nat) (wr : World) : Prop :=
  ∃ (E : List Ac) (Ae : Option Addr) (ce : Nat), E.length ≤ j ∧ Eok ⟨n, E⟩ ∧ (∀ i, i < E.length → (ag E i).t ≤ 44 ∧ ∀ j', j ≤ j' → j' < m → (ag E i).t ≤ (cl.getD j' 0 : Nat)) ∧
    wr.heap[Q]? = some (.cells (ge ⟨n, E⟩ ⟨Ae, ce⟩) 28 (0, 0)) ∧ wr.ownsRow w.heap.size 76 7 (.slice Ae E.length ce) E.length (av E) ∧
    wr.ownsRow w.heap.size 3 1 (.slice Acl m cc) m (iv cl) ∧ wr.heap[w.heap.size]? = some (.cells (gd d v) 25 (0, 0)) ∧ wr.heap[w.heap.size + 1]? = some (.cells zE 28 (0, 0)) ∧ w.grownBy wr (some T) ∧ TapeOk wr T
theorem ERel.same {T Q : Nat} {n : Int} {w : World} {d : Dy} {v : Vd} {cl : List Nat} {Acl : Option Addr} {cc m j : Nat} {W : World} {E : List Ac} {Ae : Option Addr} {ce : Nat}
    (hEj : E.length ≤ j) (hok : Eok ⟨n, E⟩) (hEt : ∀ i, i < E.length → (ag E i).t ≤ 44 ∧ ∀ j', j ≤ j' → j' < m → (ag E i).t ≤ (cl.getD j' 0 : Nat))
    (hQ : W.heap[Q]? = some (.cells (ge ⟨n, E⟩ ⟨Ae, ce⟩) 28 (0, 0))) (hO : W.ownsRow w.heap.size 76 7 (.slice Ae E.length ce) E.length (av E)) (hC : W.ownsRow w.heap.size 3 1 (.slice Acl m cc) m (iv cl))
    (hZ : W.heap[w.heap.size]? = some (.cells (gd d v) 25 (0, 0))) (hZ1 : W.heap[w.heap.size + 1]? = some (.cells zE 28 (0, 0))) (hB : w.grownBy W (some T)) (hT : TapeOk W T) : ERel T Q n w d v cl Acl cc m (j + 1) W :=
  ⟨E, Ae, ce, by omega, hok, fun i hi => ⟨(hEt i hi).1, fun j' h1 h2 => (hEt i hi).2 j' (by omega) h2⟩, hQ, hO, hC, hZ, hZ1, hB, hT⟩
theorem ERel.close {T Q : Nat} {n : Int} {w : World} {d : Dy} {v : Vd} {cl : List Nat} {Acl : Option Addr} {cc m j tm : Nat} {W w12 : World} {E : List Ac} {Ae Ae' : Option Addr} {ce ce' : Nat} {x : Ac} {o : Obj}
    (hEj : E.length ≤ j) (hok : Eok ⟨n, E⟩) (hEt : ∀ i, i < E.length → (ag E i).t ≤ 44 ∧ ∀ j', j ≤ j' → j' < m → (ag E i).t ≤ (cl.getD j' 0 : Nat)) (hjm : j < m) (hm : m ≤ 15) (has : Asc cl 44) (hcl : cl.length = m) (htm : cl.getD j 0 = tm)
    (hx : fitP n x) (hp : 0 ≤ x.p ∧ x.p < n) (hxt : x.t = (tm : Int))
    (hQ : W.heap[Q]? = some (.cells (ge ⟨n, E⟩ ⟨Ae, ce⟩) 28 (0, 0))) (hQw : w.heap.size + 2 ≤ Q) (hO : W.ownsRow w.heap.size 76 7 (.slice Ae E.length ce) E.length (av E)) (hC : W.ownsRow w.heap.size 3 1 (.slice Acl m cc) m (iv cl))
    (hZ : W.heap[w.heap.size]? = some (.cells (gd d v) 25 (0, 0))) (hZ1 : W.heap[w.heap.size + 1]? = some (.cells zE 28 (0, 0))) (hB : w.grownBy W (some T)) (hT : TapeOk W T) (hTw : T < w.heap.size)
    (hgr : (W.alloc o).grownBy w12 (Value.slice Ae E.length ce).ownBlock)
    (hO2 : w12.ownsRow w.heap.size 76 7 (.slice Ae' (E.length + 1) ce') (E.length + 1) (av E ++ [.int .i64 x.t, .int .i64 x.k, .int .i64 x.p, .int .i64 x.r, .int .i64 x.u, .int .i64 x.c, .int .i64 x.f])) :
    ERel T Q n w d v cl Acl cc m (j + 1) (w12.setRow Q ((ge ⟨n, E⟩ ⟨Ae, ce⟩).setIfInBounds 1 (.slice Ae' (E.length + 1) ce'))) := by
  have hmono : ∀ d i, i + d < cl.length → cl.getD i 0 ≤ cl.getD (i + d) 0 := fun d i h => Asc.mono has d i h
  have htm2 : ∀ j', j ≤ j' → j' < m → tm ≤ cl.getD j' 0 := fun j' h1 h2 => by
    obtain ⟨dd, rfl⟩ : ∃ dd, j' = j + dd := ⟨j' - j, by omega⟩
    rw [← htm]; exact hmono dd j (by omega)
  have htm3 : tm ≤ 44 := by rw [← htm]; exact has.le j (by omega)
  have hlen : (E ++ [x]).length = E.length + 1 := by simp
  have hba := box_below W o
  have hQ12 : w12.heap[Q]? = some (.cells (ge ⟨n, E⟩ ⟨Ae, ce⟩) 28 (0, 0)) := by
    have h1 := (heap_alloc_old W o (row_lt hQ)).trans hQ
    exact (hgr.block Q (by have := row_lt hQ; simp; omega) (fun e => own_not (own_below hO hba) h1 (by decide) e.symm)).trans h1
  have hbox : ∀ (g : Nat) (cs : Array Value) (t : TypeId), W.heap[g]? = some (.cells cs t (0, 0)) → t ≠ 76 → w12.heap[g]? = some (.cells cs t (0, 0)) := fun g cs t hg hne => by
    have h1 := (heap_alloc_old W o (row_lt hg)).trans hg
    exact (hgr.block g (by have := row_lt hg; simp; omega) (fun e => own_not (own_below hO hba) h1 hne e.symm)).trans h1
  generalize hcs : (ge ⟨n, E⟩ ⟨Ae, ce⟩).setIfInBounds 1 (.slice Ae' (E.length + 1) ce') = cs
  have hcs2 : cs = ge ⟨n, E ++ [x]⟩ ⟨Ae', ce'⟩ := by rw [← hcs]; unfold ge; rw [hlen]; rfl
  have hs := gb_setRow w12 Q cs
  refine ⟨E ++ [x], Ae', ce', by omega, ?_, fun i hi => ?_, ?_, ?_, ?_, ?_, ?_, ?_, ?_⟩
  · refine Eok.add hok (by omega) ⟨by rw [hxt]; omega, by rw [hxt]; omega, hp.1, hp.2, hx⟩ (fun i hi => ?_)
    rw [hxt, ← htm]
    have := (hEt i hi).2 j (Nat.le_refl _) hjm
    omega
  · rw [hlen] at hi
    by_cases e : i = E.length
    · rw [e, ag_end, hxt]
      exact ⟨by omega, fun j' h1 h2 => by have := htm2 j' (by omega) h2; omega⟩
    · rw [ag_left (by omega)]
      exact ⟨(hEt i (by omega)).1, fun j' h1 h2 => (hEt i (by omega)).2 j' (by omega) h2⟩
  · rw [← hcs2]; exact setRow_heap _ _ _ _ _ _ hQ12
  · rw [hlen, av_snoc]
    exact kept_ne hO2 hs (fun g e => by cases e; exact own_not hO2 hQ12 (by decide))
  · have h1 := own_below hC hba
    have h2 := kept_ne h1 hgr (fun g e => own_ne (own_below hO hba) h1 (by decide) g e)
    exact kept_ne h2 hs (fun g e => by cases e; exact own_not h2 hQ12 (by decide))
  · exact (setRow_other _ _ _ _ (by omega)).trans (hbox _ _ _ hZ (by decide))
  · exact (setRow_other _ _ _ _ (by omega)).trans (hbox _ _ _ hZ1 (by decide))
  · exact gb_far (gb_own (gb_trans hB (gb_row (gb_of_below hba))) hgr (fun g e => (hO.lt g e).1)) (by omega) _
  · exact tape_set (tape_kept (tape_below hT hba) hgr (fun g e => by have := (hO.lt g e).1; omega)) (by omega) _
/-- The made estate, and how long its row of events may grow. -/
def EsPostC (T : Nat) (w : World) (e : Ending) (w' : World) : Prop := ∃ (a : Es) (v : Ve), e = .returned (.agg (ge a v)) ∧ MkE a ∧ EL w' w.heap.size a v ∧ w.grownBy w' (some T) ∧ TapeOk w' T ∧ a.e.length ≤ v.c
set_option maxRecDepth 100000 in
set_option maxHeartbeats 8000000 in
theorem estate_cap (T : Nat) (d : Dy) (v : Vd) (w : World) (h : TapeOk w T) (hT : T < w.heap.size) (h1 : 1 ≤ d.k.length) (h2 : d.k.length ≤ 7) :
    Calls Tryz.prog 11 #[.pointer (some ⟨T, 0, none⟩), .agg (gd d v)] w (EsPostC T w) := by
  have hb2 := (box_below w (.cells (gd d v) 25)).trans ((box_below (w.alloc (.cells (gd d v) 25)) (.cells zE 28)).mono (by simp))
  have HT := Lib.hid (tape_below h hb2)
  have HG := Lib.hid (gb_row (gb_of_below hb2) : w.grownBy _ (some T))
  have R0 := Lib.hid ((heap_alloc_old (w.alloc (.cells (gd d v) 25)) (.cells zE 28) (by simp)).trans (heap_alloc_new w (.cells (gd d v) 25)))
  have r1 := heap_alloc_new (w.alloc (.cells (gd d v) 25)) (.cells zE 28)
  rw [show (w.alloc (.cells (gd d v) 25)).heap.size = w.heap.size + 1 by simp] at r1
  have R1 := Lib.hid r1
  clear h hb2 r1
  obtain ⟨j0, hj1, hy0, hy1, hy2⟩ := info_parts zinfoAc
  have HJ := Lib.hid hj1
  have HJ0 := Lib.hid hy0
  have HJ1 := Lib.hid hy1
  have HJ2 := Lib.hid hy2
  clear hj1 hy0 hy1 hy2
  go_enter Tryz.func11, Tryz.ntmps11
  go_wp2_with fail
  refine (between_any T 1 4 _ HT.out (by omega) (by omega) (by omega) (by omega)).mono ?_
  rintro e w1 ⟨n, hn0, hn1, rfl, hg1, ht1⟩
  have hg1' := gb_trans HG.out hg1
  have S0 := Lib.hid ((hg1.block _ (row_lt R0.out) (by simp; omega)).trans R0.out)
  have S1 := Lib.hid ((hg1.block _ (row_lt R1.out) (by simp; omega)).trans R1.out)
  have HG1 := Lib.hid hg1'
  have HT1 := Lib.hid ht1
  clear hg1 ht1 hg1' HT HG R0 R1
  go_wp2_with fail
  have hbq := box_below w1 (.cells #[.int .i64 n, .slice none 0 0] 28)
  have HT1q := Lib.hid (tape_below HT1.out hbq)
  have HQ := Lib.hid (show (w1.alloc (.cells #[.int .i64 n, .slice none 0 0] 28)).heap[w1.heap.size]? = some (.cells (ge ⟨n, []⟩ ⟨none, 0⟩) 28 (0, 0)) from heap_alloc_new w1 _)
  have Q0 := Lib.hid ((hbq.block _ (row_lt S0.out)).trans S0.out)
  have Q1 := Lib.hid ((hbq.block _ (row_lt S1.out)).trans S1.out)
  have HGq := Lib.hid (gb_alloc2 HG1.out (.cells #[.int .i64 n, .slice none 0 0] 28))
  have hsz1 : w.heap.size + 2 ≤ w1.heap.size := by have := row_lt S1.out; omega
  clear hbq HT1 HG1 S0 S1
  generalize w1.alloc (.cells #[.int .i64 n, .slice none 0 0] 28) = wq at *
  generalize w1.heap.size = Q at *
  have hTq : T < wq.heap.size := by have := HGq.out.size; omega
  refine (next_any T 16 _ HT1q.out (by omega) (by omega)).mono ?_
  rintro e w2 ⟨zm, zm0, zm1, rfl, hg2, ht2⟩
  obtain ⟨m, rfl⟩ : ∃ k : Nat, zm = k := ⟨zm.toNat, by omega⟩
  have hTw2 : T < w2.heap.size := by have := hg2.size; omega
  have HCK := Lib.hid (clock_any T m w2 ht2 hTw2 (by omega))
  have HQ2 := Lib.hid ((hg2.block _ (row_lt HQ.out) (by simp; omega)).trans HQ.out)
  have Q02 := Lib.hid ((hg2.block _ (row_lt Q0.out) (by simp; omega)).trans Q0.out)
  have Q12 := Lib.hid ((hg2.block _ (row_lt Q1.out) (by simp; omega)).trans Q1.out)
  have HG2 := Lib.hid (gb_trans HGq.out hg2)
  clear hg2 ht2 HQ Q0 Q1 HGq HT1q
  go_wp2_with fail
  refine HCK.out.mono ?_
  rintro e w3 ⟨cl, Acl, cc, rfl, hcll, hasc, hcown, hg3, ht3⟩
  have HQ3 := Lib.hid ((hg3.block _ (row_lt HQ2.out) (by simp; omega)).trans HQ2.out)
  have Q03 := Lib.hid ((hg3.block _ (row_lt Q02.out) (by simp; omega)).trans Q02.out)
  have Q13 := Lib.hid ((hg3.block _ (row_lt Q12.out) (by simp; omega)).trans Q12.out)
  have HG3 := Lib.hid (gb_trans HG2.out hg3)
  have HOC := Lib.hid (own_base hcown (show w.heap.size ≤ w2.heap.size from HG2.out.size))
  have HT3 := Lib.hid ht3
  have HCL := Lib.hid hcll
  have HAS := Lib.hid hasc
  clear hg3 ht3 hcll hasc hcown HCK HQ2 Q02 Q12 HG2
  go_wp2_with fail
  go_loopw [17] (fun jj wr => ∃ j : Nat, j ≤ m ∧ jj = .int .i64 (j : Int) ∧ ERel T Q n w d v cl Acl cc m j wr) (fun jj _ => m - (intOf jj).toNat)
  case atStart => exact ⟨0, by omega, rfl, [], none, 0, by simp, Eok.nil hn0 (by omega), fun i hi => absurd hi (by simp), HQ3.out, own_nil _ _ _ _, HOC.out, Q03.out, Q13.out, HG3.out, HT3.out⟩
  case round =>
    obtain ⟨j, hj, rfl, E, Ae, ce, hlj, hok, hlt', hq, hown, hoc, hz, hz1, hgb, htp⟩ := hrel
    have HOK := Lib.hid hok
    have HLT := Lib.hid hlt'
    have HO := Lib.hid hown
    have HC := Lib.hid hoc
    have HZ := Lib.hid hz
    have HZ1 := Lib.hid hz1
    have HQR := Lib.hid hq
    have HGB := Lib.hid hgb
    have HTP := Lib.hid htp
    have hszr := hgb.size
    have lq := row_lt hq
    obtain ⟨g0, g1⟩ := geCells hq
    clear HOC HQ3 Q03 Q13 HG3 HT3 hok hlt'
    by_cases hlt : j < m
    · obtain ⟨b, off, e6, -, -, y0⟩ := (row_of_own hoc).int hlt
      have hAc : Acl = some ⟨b, off, none⟩ := e6
      subst hAc
      obtain ⟨tm, htm⟩ : ∃ t, cl.getD j 0 = t := ⟨_, rfl⟩
      rw [htm] at y0
      have HTM := Lib.hid htm
      have i0' : (0 : Int) ≤ (j : Int) := by omega
      have i1' : (j : Int) < (m : Int) := by omega
      have hTr : T < wr.heap.size := by omega
      have HNX := Lib.hid (fun (w' : World) (h : TapeOk w' T) => next_any T n w' h (by omega) (by omega))
      have HPK := Lib.hid (fun (w' : World) (G : Nat) (h : TapeOk w' T) (hr : Row w' wr.heap.size 1 (some ⟨G, 0, none⟩) 10 (iv ten)) => pick_any T wr.heap.size 10 10 (some ⟨G, 0, none⟩) ten w' h hr (by omega) (by omega) (by omega))
      clear hown hoc hz hz1 hq hgb htp htm
      go_upto_region 5 with fail
      go_cut [8] from 21 to 29 (fun s8 wx => ∃ (k : Nat) (p : Nat) (G : Nat), s8 = .pointer (some ⟨G, 0, none⟩) ∧ (1 ≤ k ∧ k ≤ 7) ∧ (p : Int) < n ∧ wr.heap.size ≤ G ∧ wx.heap[G]? = some (.cells #[.int .i64 (tm : Int), .int .i64 (k : Int), .int .i64 (p : Int), .int .i64 0, .int .i64 0, .int .i64 0, .int .i64 0] 76 (0, 0)) ∧ wr.grownBy wx (some T) ∧ TapeOk wx T)
      case first =>
        -- CUT
        have LQ := Lib.hid lq
        go_region_law (first
          | (go_simp; go_at_call 39; (with_reducible refine (HPK.out _ _ ?_ ?_).mono ?_); (first | exact TN.out | exact tape_new2 TN.out _ | exact tape_new2 (tape_new2 TN.out _) _); (first | exact lits_lA (heap_alloc_new wn lA) GN.out.size | exact lits_lA (at1 wn lA zA) GN.out.size | exact lits_lA (at2 wn zA lA) (Nat.le_succ_of_le GN.out.size) | exact lits_lA LN.out LNb.out | exact lits_lA ((heap_alloc_old wn zA (row_lt LN.out)).trans LN.out) LNb.out); (rintro e wl ⟨z, hz4, rfl, hg0, ht0⟩; obtain ⟨k, hk⟩ : ∃ k, ten.getD z 0 = k := ⟨_, rfl⟩; rw [hk]; have HK7 := Lib.hid (show 1 ≤ k ∧ k ≤ 7 from hk ▸ ten_rng z hz4); have GL := Lib.hid (show wr.grownBy wl (some T) from (by first | exact gb_trans GN.out ⟨hg0.os, hg0.tape, hg0.output, hg0.size, hg0.block⟩ | exact gb_trans (gb_alloc2 GN.out _) ⟨hg0.os, hg0.tape, hg0.output, hg0.size, hg0.block⟩ | exact gb_trans (gb_alloc2 (gb_alloc2 GN.out _) _) ⟨hg0.os, hg0.tape, hg0.output, hg0.size, hg0.block⟩)); have TL := Lib.hid ht0; (first | (have ZL := Lib.hid (show wl.heap[wn.heap.size]? = some zA from (by first | exact (hg0.block (wn.heap.size) (by first | (simp; done) | (simp; omega)) (fun e => by injection e; omega)).trans (heap_alloc_new wn zA) | exact (hg0.block (wn.heap.size) (by first | (simp; done) | (simp; omega)) (fun e => by injection e; omega)).trans (at1 wn zA lA)))) | (have ZL := Lib.hid (show wl.heap[wn.heap.size + 1]? = some zA from (hg0.block (wn.heap.size + 1) (by first | (simp; done) | (simp; omega)) (fun e => by injection e; omega)).trans (at2 wn lA zA))) | (have ZL := Lib.hid ((hg0.block _ (row_lt ZN.out) (fun e => by injection e; have := ZNb.out; omega)).trans ZN.out)) | (have ZL := Lib.hid ((hg0.block _ (Nat.lt_of_lt_of_le (row_lt ZN.out) (by simp)) (fun e => by injection e; have := ZNb.out; omega)).trans ((heap_alloc_old _ _ (row_lt ZN.out)).trans ZN.out))) | skip); (first | (have zz := xc7 ZL.out; obtain ⟨⟨x0, x1, x2, x3, x4, x5, x6⟩, f0, f1, f2, f3, f4, f5, f6⟩ := zz) | skip); (first | clear hg0 | skip); (first | clear ht0 | skip); (first | clear hk | skip); (first | clear hz4 | skip)))
          | (go_simp; go_at_call 12; (with_reducible refine (HNX.out _ ?_).mono ?_); (first | exact TP.out | exact tape_new2 TP.out _ | exact tape_new2 (tape_new2 TP.out _) _); (rintro e wl ⟨zp, zp0, zp1, rfl, hg0, ht0⟩; obtain ⟨p, rfl⟩ : ∃ p : Nat, zp = p := ⟨zp.toNat, by omega⟩; have HPL := Lib.hid (show (p : Int) < n by omega); have GL := Lib.hid (show wr.grownBy wl (some T) from (by first | exact gb_trans GP.out ⟨hg0.os, hg0.tape, hg0.output, hg0.size, hg0.block⟩ | exact gb_trans (gb_alloc2 GP.out _) ⟨hg0.os, hg0.tape, hg0.output, hg0.size, hg0.block⟩ | exact gb_trans (gb_alloc2 (gb_alloc2 GP.out _) _) ⟨hg0.os, hg0.tape, hg0.output, hg0.size, hg0.block⟩)); have TL := Lib.hid ht0; (first | (have ZL := Lib.hid (show wl.heap[wp.heap.size]? = some zA from (by first | exact (hg0.block (wp.heap.size) (by first | (simp; done) | (simp; omega)) (fun e => by injection e; omega)).trans (heap_alloc_new wp zA) | exact (hg0.block (wp.heap.size) (by first | (simp; done) | (simp; omega)) (fun e => by injection e; omega)).trans (at1 wp zA lA)))) | (have ZL := Lib.hid (show wl.heap[wp.heap.size + 1]? = some zA from (hg0.block (wp.heap.size + 1) (by first | (simp; done) | (simp; omega)) (fun e => by injection e; omega)).trans (at2 wp lA zA))) | (have ZL := Lib.hid ((hg0.block _ (row_lt ZP.out) (fun e => by injection e; have := ZPb.out; omega)).trans ZP.out)) | (have ZL := Lib.hid ((hg0.block _ (Nat.lt_of_lt_of_le (row_lt ZP.out) (by simp)) (fun e => by injection e; have := ZPb.out; omega)).trans ((heap_alloc_old _ _ (row_lt ZP.out)).trans ZP.out))) | skip); (first | (have zz := xc7 ZL.out; obtain ⟨⟨x0, x1, x2, x3, x4, x5, x6⟩, f0, f1, f2, f3, f4, f5, f6⟩ := zz) | skip); (first | clear hg0 | skip); (first | clear ht0 | skip); (first | clear zp0 zp1 | skip)))
          | (go_simp; go_at_call 39; (with_reducible refine (HPK.out _ _ ?_ ?_).mono ?_); (first | exact HTP.out | exact tape_new2 HTP.out _ | exact tape_new2 (tape_new2 HTP.out _) _); (first | exact lits_lA (heap_alloc_new wr lA) (Nat.le_refl _) | exact lits_lA (at1 wr lA zA) (Nat.le_refl _) | exact lits_lA (at2 wr zA lA) (Nat.le_succ _)); (rintro e wp ⟨z, hz4, rfl, hg0, ht0⟩; obtain ⟨k, hk⟩ : ∃ k, ten.getD z 0 = k := ⟨_, rfl⟩; rw [hk]; have HK7 := Lib.hid (show 1 ≤ k ∧ k ≤ 7 from hk ▸ ten_rng z hz4); have GP := Lib.hid (show wr.grownBy wp (some T) from (by first | exact ⟨hg0.os, hg0.tape, hg0.output, hg0.size, hg0.block⟩ | exact gb_trans (gb_row (gb_of_below (box_below wr _))) ⟨hg0.os, hg0.tape, hg0.output, hg0.size, hg0.block⟩ | exact gb_trans (gb_alloc2 (gb_row (gb_of_below (box_below wr _))) _) ⟨hg0.os, hg0.tape, hg0.output, hg0.size, hg0.block⟩)); have TP := Lib.hid ht0; have hTp : T < wp.heap.size := Nat.lt_of_lt_of_le hTr GP.out.size; have lqp : Q < wp.heap.size := Nat.lt_of_lt_of_le lq GP.out.size; have u0 : wp.cell? ⟨Q, 0, none⟩ = some (.int .i64 n) := (geCells ((GP.out.block Q lq (fun e => by injection e; omega)).trans HQR.out)).1; (first | (have ZP := Lib.hid (show wp.heap[wr.heap.size]? = some zA from (by first | exact (hg0.block (wr.heap.size) (by first | (simp; done) | (simp; omega)) (fun e => by injection e; omega)).trans (heap_alloc_new wr zA) | exact (hg0.block (wr.heap.size) (by first | (simp; done) | (simp; omega)) (fun e => by injection e; omega)).trans (at1 wr zA lA))); have ZPb := Lib.hid (Nat.le_refl wr.heap.size)) | (have ZP := Lib.hid (show wp.heap[wr.heap.size + 1]? = some zA from (hg0.block (wr.heap.size + 1) (by first | (simp; done) | (simp; omega)) (fun e => by injection e; omega)).trans (at2 wr lA zA)); have ZPb := Lib.hid (Nat.le_succ wr.heap.size)) | skip); (first | (have zz := xc7 ZP.out; obtain ⟨⟨x0, x1, x2, x3, x4, x5, x6⟩, f0, f1, f2, f3, f4, f5, f6⟩ := zz) | skip); (first | clear hg0 | skip); (first | clear ht0 | skip); (first | clear hk | skip); (first | clear hz4 | skip)))
          | (go_simp; go_at_call 12; (with_reducible refine (HNX.out _ ?_).mono ?_); (first | exact HTP.out | exact tape_new2 HTP.out _ | exact tape_new2 (tape_new2 HTP.out _) _); (rintro e wn ⟨zp, zp0, zp1, rfl, hg0, ht0⟩; obtain ⟨p, rfl⟩ : ∃ p : Nat, zp = p := ⟨zp.toNat, by omega⟩; have HPL := Lib.hid (show (p : Int) < n by omega); have GN := Lib.hid (show wr.grownBy wn (some T) from (by first | exact ⟨hg0.os, hg0.tape, hg0.output, hg0.size, hg0.block⟩ | exact gb_trans (gb_row (gb_of_below (box_below wr _))) ⟨hg0.os, hg0.tape, hg0.output, hg0.size, hg0.block⟩ | exact gb_trans (gb_alloc2 (gb_row (gb_of_below (box_below wr _))) _) ⟨hg0.os, hg0.tape, hg0.output, hg0.size, hg0.block⟩)); have TN := Lib.hid ht0; have hTn : T < wn.heap.size := Nat.lt_of_lt_of_le hTr GN.out.size; have lqn : Q < wn.heap.size := Nat.lt_of_lt_of_le lq GN.out.size; have u0 : wn.cell? ⟨Q, 0, none⟩ = some (.int .i64 n) := (geCells ((GN.out.block Q lq (fun e => by injection e; omega)).trans HQR.out)).1; (first | (have ZN := Lib.hid (show wn.heap[wr.heap.size]? = some zA from (by first | exact (hg0.block (wr.heap.size) (by first | (simp; done) | (simp; omega)) (fun e => by injection e; omega)).trans (heap_alloc_new wr zA) | exact (hg0.block (wr.heap.size) (by first | (simp; done) | (simp; omega)) (fun e => by injection e; omega)).trans (at1 wr zA lA))); have ZNb := Lib.hid (Nat.le_refl wr.heap.size)) | (have ZN := Lib.hid (show wn.heap[wr.heap.size + 1]? = some zA from (hg0.block (wr.heap.size + 1) (by first | (simp; done) | (simp; omega)) (fun e => by injection e; omega)).trans (at2 wr lA zA)); have ZNb := Lib.hid (Nat.le_succ wr.heap.size)) | skip); (first | (have LN := Lib.hid (show wn.heap[wr.heap.size]? = some lA from (by first | exact (hg0.block (wr.heap.size) (by first | (simp; done) | (simp; omega)) (fun e => by injection e; omega)).trans (heap_alloc_new wr lA) | exact (hg0.block (wr.heap.size) (by first | (simp; done) | (simp; omega)) (fun e => by injection e; omega)).trans (at1 wr lA zA))); have LNb := Lib.hid (Nat.le_refl wr.heap.size)) | (have LN := Lib.hid (show wn.heap[wr.heap.size + 1]? = some lA from (hg0.block (wr.heap.size + 1) (by first | (simp; done) | (simp; omega)) (fun e => by injection e; omega)).trans (at2 wr zA lA)); have LNb := Lib.hid (Nat.le_succ wr.heap.size)) | skip); (first | (have zz := xc7 ZN.out; obtain ⟨⟨x0, x1, x2, x3, x4, x5, x6⟩, f0, f1, f2, f3, f4, f5, f6⟩ := zz) | skip); (first | clear hg0 | skip); (first | clear ht0 | skip); (first | clear zp0 zp1 | skip))))
        all_goals
          go_wp2_with fail
          go_meet
          case rel =>
            first
              | exact ⟨k, p, _, rfl, HK7.out, HPL.out, GL.out.size, heap_alloc_new wl _, gb_alloc2 GL.out _, tape_new2 TL.out _⟩
              | (rw [set7row ZL.out rfl]; exact ⟨k, p, _, rfl, HK7.out, HPL.out, by first | exact Nat.le_refl _ | exact Nat.le_succ _ | exact GN.out.size | exact GP.out.size | exact Nat.le_succ_of_le GN.out.size | exact Nat.le_succ_of_le GP.out.size, setRow_heap _ _ _ _ _ _ ZL.out, gb_far GL.out (by first | exact Nat.le_refl _ | exact Nat.le_succ _ | exact GN.out.size | exact GP.out.size | exact Nat.le_succ_of_le GN.out.size | exact Nat.le_succ_of_le GP.out.size) _, tape_set TL.out (by first | omega | (have := GN.out.size; omega) | (have := GP.out.size; omega)) _⟩)
        -- END
      case rest =>
        obtain ⟨k, p, G, rfl, hk7, hpn, hG, hxb, hgx, htx⟩ := hcut
        rename World => W
        have HEV0 := Lib.hid (EvW.mk (x := ⟨(tm : Int), (k : Int), (p : Int), 0, 0, 0, 0⟩) hxb ((hgx.block _ lq (fun e => by injection e; omega)).trans HQR.out) (own_keepT HO.out hgx hT) (fun e => by have := (HO.out.lt _ e).2; omega) (own_keepT HC.out hgx hT) ((hgx.block _ (row_lt HZ.out) (fun e => by injection e; omega)).trans HZ.out) ((hgx.block _ (row_lt HZ1.out) (fun e => by injection e; omega)).trans HZ1.out) (gb_trans HGB.out hgx) htx hT hsz1 (by omega))
        have HPN := Lib.hid (show (0 : Int) ≤ (p : Int) ∧ (p : Int) < n by omega)
        have hm15 : m ≤ 15 := by omega
        have htm0 : (0 : Int) ≤ (tm : Int) := by omega
        have htm1 : tm ≤ 44 := by rw [← HTM.out]; exact HAS.out.le j (by have := HCL.out; omega)
        have hGQ : G ≠ Q := by omega
        have hGw : G ≠ w.heap.size := by omega
        clear hxb hgx htx g0 g1 y0 hpn hG
        rcases (by omega : k = 1 ∨ k = 2 ∨ k = 3 ∨ k = 4 ∨ k = 5 ∨ k = 6 ∨ k = 7) with rfl | rfl | rfl | rfl | rfl | rfl | rfl
        · obtain ⟨n0, n1, n2, n3, n4, n5, n6⟩ := accCells (x := ⟨tm, 1, p, 0, 0, 0, 0⟩) HEV0.out.xb
          simp only at n0 n1 n2 n3 n4 n5 n6
          obtain ⟨g0, g1⟩ := geCells HEV0.out.q
          obtain ⟨h0', h1'⟩ := gdCells HEV0.out.z
          have hw1 : IntKind.i64.wrap ((d.k.length : Int) + 1) = (d.k.length : Int) + 1 := IntWalk.i64_in _ (by omega)
          have HNX2 := Lib.hid (next_any T ((d.k.length : Int) + 1) W HEV0.out.t (by omega) (by omega))
          go_wp2_with fail
          refine HNX2.out.mono ?_
          rintro e w4 ⟨r, r0, r1, rfl, hg4, ht4⟩
          obtain ⟨rn, rfl⟩ : ∃ rn : Nat, r = rn := ⟨r.toNat, by omega⟩
          have HE4 := Lib.hid (HEV0.out.next hg4 ht4)
          clear hg4 ht4
          clear n0 n1 n2 n3 n4 n5 n6 g0 g1 h0' h1'
          obtain ⟨V, hV⟩ : ∃ V, w4.setCell ⟨G, 3, none⟩ (.int .i64 (rn : Int)) = V := ⟨_, rfl⟩
          have HEV := Lib.hid (show EvW T Q G n w d v cl (some ⟨b, off, none⟩) cc m E Ae ce ⟨tm, 1, p, rn, 0, 0, 0⟩ V from hV ▸ HE4.out.set 3 (.int .i64 (rn : Int)) ⟨tm, 1, p, rn, 0, 0, 0⟩ rfl)
          have q4 : w4.frozen? ⟨G, 3, none⟩ = false := frozen_of_row _ _ _ _ _ HE4.out.xb
          have q5 := (accCells HE4.out.xb)
          unfold AcAt at q5
          obtain ⟨c0, c1, c2, c3, c4, c5, c6⟩ := q5
          simp only at c0 c1 c2 c3 c4 c5 c6
          obtain ⟨n0, n1, n2, n3, n4, n5, n6⟩ := accCells (x := ⟨tm, 1, p, rn, 0, 0, 0⟩) HEV.out.xb
          simp only at n0 n1 n2 n3 n4 n5 n6
          obtain ⟨g0, g1⟩ := geCells HEV.out.q
          obtain ⟨h0', h1'⟩ := gdCells HEV.out.z
          have HFIT := Lib.hid (show fitP n ⟨tm, 1, p, rn, 0, 0, 0⟩ by simp [fitP]; (first | done | omega))
          go_wp2_with (at_builtin; refine wpList_append_own _ rfl (.tmp 69) (.tmp 71) 26 rfl w.heap.size 76 j0 (.agg #[.int .i64 0, .int .i64 0, .int .i64 0, .int .i64 0, .int .i64 0, .int .i64 0, .int .i64 0]) 7 56 Tryz.underlying26 HJ.out HJ0.out HJ1.out HJ2.out rfl (by decide) _ E.length (av E) rfl (HEV.out.o.alloc _) ⟨V.heap.size, 0, none⟩ 1 1 [.int .i64 (tm : Int), .int .i64 1, .int .i64 (p : Int), .int .i64 (rn : Int), .int .i64 0, .int .i64 0, .int .i64 0] rfl rfl (World.news_of_block (heap_alloc_new V _)) (by simp [Value.oneCell']) (by unfold maxLen; omega) (by omega) (by have := HEV.out.g.size; simp; omega) ?_; intro v' w12 hown hgr _; obtain ⟨A', c', rfl⟩ := own_form hown; have Q12 := Lib.hid (HEV.out.q12 hgr); have HCLO := Lib.hid (ERel.close hlj HOK.out HLT.out hlt hm15 HAS.out HCL.out HTM.out HFIT.out HPN.out rfl HEV.out.q HEV.out.qw HEV.out.o HEV.out.c HEV.out.z HEV.out.z1 HEV.out.g HEV.out.t hT hgr hown); clear hown hgr; obtain ⟨r0, r1⟩ := geCells Q12.out; have r2 : w12.frozen? ⟨Q, 1, none⟩ = false := frozen_of_row _ _ _ _ _ Q12.out)
          rw [setCell_eq_setRow w12 Q 1 _ _ _ _ Q12.out]
          exact ⟨⟨j + 1, by omega, by go_num, HCLO.out⟩, by simp [intOf]; omega⟩
        · obtain ⟨n0, n1, n2, n3, n4, n5, n6⟩ := accCells (x := ⟨tm, 2, p, 0, 0, 0, 0⟩) HEV0.out.xb
          simp only at n0 n1 n2 n3 n4 n5 n6
          obtain ⟨g0, g1⟩ := geCells HEV0.out.q
          obtain ⟨h0', h1'⟩ := gdCells HEV0.out.z
          have hw1 : IntKind.i64.wrap ((d.k.length : Int) + 1) = (d.k.length : Int) + 1 := IntWalk.i64_in _ (by omega)
          have HNX2 := Lib.hid (next_any T ((d.k.length : Int) + 1) W HEV0.out.t (by omega) (by omega))
          go_wp2_with fail
          refine HNX2.out.mono ?_
          rintro e w4 ⟨r, r0, r1, rfl, hg4, ht4⟩
          obtain ⟨rn, rfl⟩ : ∃ rn : Nat, r = rn := ⟨r.toNat, by omega⟩
          have HE4 := Lib.hid (HEV0.out.next hg4 ht4)
          clear hg4 ht4
          clear n0 n1 n2 n3 n4 n5 n6 g0 g1 h0' h1'
          obtain ⟨V, hV⟩ : ∃ V, w4.setCell ⟨G, 3, none⟩ (.int .i64 (rn : Int)) = V := ⟨_, rfl⟩
          have HEV := Lib.hid (show EvW T Q G n w d v cl (some ⟨b, off, none⟩) cc m E Ae ce ⟨tm, 2, p, rn, 0, 0, 0⟩ V from hV ▸ HE4.out.set 3 (.int .i64 (rn : Int)) ⟨tm, 2, p, rn, 0, 0, 0⟩ rfl)
          have q4 : w4.frozen? ⟨G, 3, none⟩ = false := frozen_of_row _ _ _ _ _ HE4.out.xb
          have q5 := (accCells HE4.out.xb)
          unfold AcAt at q5
          obtain ⟨c0, c1, c2, c3, c4, c5, c6⟩ := q5
          simp only at c0 c1 c2 c3 c4 c5 c6
          obtain ⟨n0, n1, n2, n3, n4, n5, n6⟩ := accCells (x := ⟨tm, 2, p, rn, 0, 0, 0⟩) HEV.out.xb
          simp only at n0 n1 n2 n3 n4 n5 n6
          obtain ⟨g0, g1⟩ := geCells HEV.out.q
          obtain ⟨h0', h1'⟩ := gdCells HEV.out.z
          have HFIT := Lib.hid (show fitP n ⟨tm, 2, p, rn, 0, 0, 0⟩ by simp [fitP]; (first | done | omega))
          go_wp2_with (at_builtin; refine wpList_append_own _ rfl (.tmp 69) (.tmp 71) 26 rfl w.heap.size 76 j0 (.agg #[.int .i64 0, .int .i64 0, .int .i64 0, .int .i64 0, .int .i64 0, .int .i64 0, .int .i64 0]) 7 56 Tryz.underlying26 HJ.out HJ0.out HJ1.out HJ2.out rfl (by decide) _ E.length (av E) rfl (HEV.out.o.alloc _) ⟨V.heap.size, 0, none⟩ 1 1 [.int .i64 (tm : Int), .int .i64 2, .int .i64 (p : Int), .int .i64 (rn : Int), .int .i64 0, .int .i64 0, .int .i64 0] rfl rfl (World.news_of_block (heap_alloc_new V _)) (by simp [Value.oneCell']) (by unfold maxLen; omega) (by omega) (by have := HEV.out.g.size; simp; omega) ?_; intro v' w12 hown hgr _; obtain ⟨A', c', rfl⟩ := own_form hown; have Q12 := Lib.hid (HEV.out.q12 hgr); have HCLO := Lib.hid (ERel.close hlj HOK.out HLT.out hlt hm15 HAS.out HCL.out HTM.out HFIT.out HPN.out rfl HEV.out.q HEV.out.qw HEV.out.o HEV.out.c HEV.out.z HEV.out.z1 HEV.out.g HEV.out.t hT hgr hown); clear hown hgr; obtain ⟨r0, r1⟩ := geCells Q12.out; have r2 : w12.frozen? ⟨Q, 1, none⟩ = false := frozen_of_row _ _ _ _ _ Q12.out)
          rw [setCell_eq_setRow w12 Q 1 _ _ _ _ Q12.out]
          exact ⟨⟨j + 1, by omega, by go_num, HCLO.out⟩, by simp [intOf]; omega⟩
        · obtain ⟨n0, n1, n2, n3, n4, n5, n6⟩ := accCells (x := ⟨tm, 3, p, 0, 0, 0, 0⟩) HEV0.out.xb
          simp only at n0 n1 n2 n3 n4 n5 n6
          obtain ⟨g0, g1⟩ := geCells HEV0.out.q
          obtain ⟨h0', h1'⟩ := gdCells HEV0.out.z
          have hw1 : IntKind.i64.wrap ((tm : Int) + 1) = (tm : Int) + 1 := IntWalk.i64_in _ (by omega)
          have HNX2 := Lib.hid (next_any T (5) W HEV0.out.t (by omega) (by omega))
          go_wp2_with fail
          refine HNX2.out.mono ?_
          rintro e w4 ⟨r, r0, r1, rfl, hg4, ht4⟩
          obtain ⟨rn, rfl⟩ : ∃ rn : Nat, r = rn := ⟨r.toNat, by omega⟩
          have HE4 := Lib.hid (HEV0.out.next hg4 ht4)
          clear hg4 ht4
          clear n0 n1 n2 n3 n4 n5 n6 g0 g1 h0' h1'
          have hw2 : IntKind.i64.wrap ((tm : Int) + 1 + (rn : Int)) = (tm : Int) + 1 + (rn : Int) := IntWalk.i64_in _ (by omega)
          obtain ⟨un, hun⟩ : ∃ un : Nat, tm + 1 + rn = un := ⟨_, rfl⟩
          have hun2 : (tm : Int) + 1 + (rn : Int) = (un : Int) := by omega
          have hun3 : un ≤ 2000 := by omega
          obtain ⟨V, hV⟩ : ∃ V, w4.setCell ⟨G, 4, none⟩ (.int .i64 (un : Int)) = V := ⟨_, rfl⟩
          have HEV := Lib.hid (show EvW T Q G n w d v cl (some ⟨b, off, none⟩) cc m E Ae ce ⟨tm, 3, p, 0, un, 0, 0⟩ V from hV ▸ HE4.out.set 4 (.int .i64 (un : Int)) ⟨tm, 3, p, 0, un, 0, 0⟩ rfl)
          have q4 : w4.frozen? ⟨G, 4, none⟩ = false := frozen_of_row _ _ _ _ _ HE4.out.xb
          have q5 := (accCells HE4.out.xb)
          unfold AcAt at q5
          obtain ⟨c0, c1, c2, c3, c4, c5, c6⟩ := q5
          simp only at c0 c1 c2 c3 c4 c5 c6
          obtain ⟨n0, n1, n2, n3, n4, n5, n6⟩ := accCells (x := ⟨tm, 3, p, 0, un, 0, 0⟩) HEV.out.xb
          simp only at n0 n1 n2 n3 n4 n5 n6
          obtain ⟨g0, g1⟩ := geCells HEV.out.q
          obtain ⟨h0', h1'⟩ := gdCells HEV.out.z
          have HFIT := Lib.hid (show fitP n ⟨tm, 3, p, 0, un, 0, 0⟩ by simp [fitP]; (first | done | omega))
          go_wp2_with (at_builtin; refine wpList_append_own _ rfl (.tmp 69) (.tmp 71) 26 rfl w.heap.size 76 j0 (.agg #[.int .i64 0, .int .i64 0, .int .i64 0, .int .i64 0, .int .i64 0, .int .i64 0, .int .i64 0]) 7 56 Tryz.underlying26 HJ.out HJ0.out HJ1.out HJ2.out rfl (by decide) _ E.length (av E) rfl (HEV.out.o.alloc _) ⟨V.heap.size, 0, none⟩ 1 1 [.int .i64 (tm : Int), .int .i64 3, .int .i64 (p : Int), .int .i64 0, .int .i64 (un : Int), .int .i64 0, .int .i64 0] rfl rfl (World.news_of_block (heap_alloc_new V _)) (by simp [Value.oneCell']) (by unfold maxLen; omega) (by omega) (by have := HEV.out.g.size; simp; omega) ?_; intro v' w12 hown hgr _; obtain ⟨A', c', rfl⟩ := own_form hown; have Q12 := Lib.hid (HEV.out.q12 hgr); have HCLO := Lib.hid (ERel.close hlj HOK.out HLT.out hlt hm15 HAS.out HCL.out HTM.out HFIT.out HPN.out rfl HEV.out.q HEV.out.qw HEV.out.o HEV.out.c HEV.out.z HEV.out.z1 HEV.out.g HEV.out.t hT hgr hown); clear hown hgr; obtain ⟨r0, r1⟩ := geCells Q12.out; have r2 : w12.frozen? ⟨Q, 1, none⟩ = false := frozen_of_row _ _ _ _ _ Q12.out)
          rw [setCell_eq_setRow w12 Q 1 _ _ _ _ Q12.out]
          exact ⟨⟨j + 1, by omega, by go_num, HCLO.out⟩, by simp [intOf]; omega⟩
        · obtain ⟨V, hV⟩ : ∃ V, W = V := ⟨_, rfl⟩
          subst hV
          have HEV := HEV0
          obtain ⟨n0, n1, n2, n3, n4, n5, n6⟩ := accCells (x := ⟨tm, 4, p, 0, 0, 0, 0⟩) HEV.out.xb
          simp only at n0 n1 n2 n3 n4 n5 n6
          obtain ⟨g0, g1⟩ := geCells HEV.out.q
          obtain ⟨h0', h1'⟩ := gdCells HEV.out.z
          have HFIT := Lib.hid (show fitP n ⟨tm, 4, p, 0, 0, 0, 0⟩ by simp [fitP]; (first | done | omega))
          go_wp2_with (at_builtin; refine wpList_append_own _ rfl (.tmp 69) (.tmp 71) 26 rfl w.heap.size 76 j0 (.agg #[.int .i64 0, .int .i64 0, .int .i64 0, .int .i64 0, .int .i64 0, .int .i64 0, .int .i64 0]) 7 56 Tryz.underlying26 HJ.out HJ0.out HJ1.out HJ2.out rfl (by decide) _ E.length (av E) rfl (HEV.out.o.alloc _) ⟨W.heap.size, 0, none⟩ 1 1 [.int .i64 (tm : Int), .int .i64 4, .int .i64 (p : Int), .int .i64 0, .int .i64 0, .int .i64 0, .int .i64 0] rfl rfl (World.news_of_block (heap_alloc_new W _)) (by simp [Value.oneCell']) (by unfold maxLen; omega) (by omega) (by have := HEV.out.g.size; simp; omega) ?_; intro v' w12 hown hgr _; obtain ⟨A', c', rfl⟩ := own_form hown; have Q12 := Lib.hid (HEV.out.q12 hgr); have HCLO := Lib.hid (ERel.close hlj HOK.out HLT.out hlt hm15 HAS.out HCL.out HTM.out HFIT.out HPN.out rfl HEV.out.q HEV.out.qw HEV.out.o HEV.out.c HEV.out.z HEV.out.z1 HEV.out.g HEV.out.t hT hgr hown); clear hown hgr; obtain ⟨r0, r1⟩ := geCells Q12.out; have r2 : w12.frozen? ⟨Q, 1, none⟩ = false := frozen_of_row _ _ _ _ _ Q12.out)
          rw [setCell_eq_setRow w12 Q 1 _ _ _ _ Q12.out]
          exact ⟨⟨j + 1, by omega, by go_num, HCLO.out⟩, by simp [intOf]; omega⟩
        · obtain ⟨n0, n1, n2, n3, n4, n5, n6⟩ := accCells (x := ⟨tm, 5, p, 0, 0, 0, 0⟩) HEV0.out.xb
          simp only at n0 n1 n2 n3 n4 n5 n6
          obtain ⟨g0, g1⟩ := geCells HEV0.out.q
          obtain ⟨h0', h1'⟩ := gdCells HEV0.out.z
          have HNX2 := Lib.hid (next_any T (3) W HEV0.out.t (by omega) (by omega))
          go_wp2_with fail
          refine HNX2.out.mono ?_
          rintro e w4 ⟨r, r0, r1, rfl, hg4, ht4⟩
          obtain ⟨rn, rfl⟩ : ∃ rn : Nat, r = rn := ⟨r.toNat, by omega⟩
          have HE4 := Lib.hid (HEV0.out.next hg4 ht4)
          clear hg4 ht4
          clear n0 n1 n2 n3 n4 n5 n6 g0 g1 h0' h1'
          obtain ⟨V, hV⟩ : ∃ V, w4.setCell ⟨G, 5, none⟩ (.int .i64 (rn : Int)) = V := ⟨_, rfl⟩
          have HEV := Lib.hid (show EvW T Q G n w d v cl (some ⟨b, off, none⟩) cc m E Ae ce ⟨tm, 5, p, 0, 0, rn, 0⟩ V from hV ▸ HE4.out.set 5 (.int .i64 (rn : Int)) ⟨tm, 5, p, 0, 0, rn, 0⟩ rfl)
          have q4 : w4.frozen? ⟨G, 5, none⟩ = false := frozen_of_row _ _ _ _ _ HE4.out.xb
          have q5 := (accCells HE4.out.xb)
          unfold AcAt at q5
          obtain ⟨c0, c1, c2, c3, c4, c5, c6⟩ := q5
          simp only at c0 c1 c2 c3 c4 c5 c6
          obtain ⟨n0, n1, n2, n3, n4, n5, n6⟩ := accCells (x := ⟨tm, 5, p, 0, 0, rn, 0⟩) HEV.out.xb
          simp only at n0 n1 n2 n3 n4 n5 n6
          obtain ⟨g0, g1⟩ := geCells HEV.out.q
          obtain ⟨h0', h1'⟩ := gdCells HEV.out.z
          have HFIT := Lib.hid (show fitP n ⟨tm, 5, p, 0, 0, rn, 0⟩ by simp [fitP]; (first | done | omega))
          go_wp2_with (at_builtin; refine wpList_append_own _ rfl (.tmp 69) (.tmp 71) 26 rfl w.heap.size 76 j0 (.agg #[.int .i64 0, .int .i64 0, .int .i64 0, .int .i64 0, .int .i64 0, .int .i64 0, .int .i64 0]) 7 56 Tryz.underlying26 HJ.out HJ0.out HJ1.out HJ2.out rfl (by decide) _ E.length (av E) rfl (HEV.out.o.alloc _) ⟨V.heap.size, 0, none⟩ 1 1 [.int .i64 (tm : Int), .int .i64 5, .int .i64 (p : Int), .int .i64 0, .int .i64 0, .int .i64 (rn : Int), .int .i64 0] rfl rfl (World.news_of_block (heap_alloc_new V _)) (by simp [Value.oneCell']) (by unfold maxLen; omega) (by omega) (by have := HEV.out.g.size; simp; omega) ?_; intro v' w12 hown hgr _; obtain ⟨A', c', rfl⟩ := own_form hown; have Q12 := Lib.hid (HEV.out.q12 hgr); have HCLO := Lib.hid (ERel.close hlj HOK.out HLT.out hlt hm15 HAS.out HCL.out HTM.out HFIT.out HPN.out rfl HEV.out.q HEV.out.qw HEV.out.o HEV.out.c HEV.out.z HEV.out.z1 HEV.out.g HEV.out.t hT hgr hown); clear hown hgr; obtain ⟨r0, r1⟩ := geCells Q12.out; have r2 : w12.frozen? ⟨Q, 1, none⟩ = false := frozen_of_row _ _ _ _ _ Q12.out)
          rw [setCell_eq_setRow w12 Q 1 _ _ _ _ Q12.out]
          exact ⟨⟨j + 1, by omega, by go_num, HCLO.out⟩, by simp [intOf]; omega⟩
        · obtain ⟨n0, n1, n2, n3, n4, n5, n6⟩ := accCells (x := ⟨tm, 6, p, 0, 0, 0, 0⟩) HEV0.out.xb
          simp only at n0 n1 n2 n3 n4 n5 n6
          obtain ⟨g0, g1⟩ := geCells HEV0.out.q
          obtain ⟨h0', h1'⟩ := gdCells HEV0.out.z
          have HNX2 := Lib.hid (next_any T (3) W HEV0.out.t (by omega) (by omega))
          go_wp2_with fail
          refine HNX2.out.mono ?_
          rintro e w4 ⟨r, r0, r1, rfl, hg4, ht4⟩
          obtain ⟨rn, rfl⟩ : ∃ rn : Nat, r = rn := ⟨r.toNat, by omega⟩
          have HE4 := Lib.hid (HEV0.out.next hg4 ht4)
          clear hg4 ht4
          clear n0 n1 n2 n3 n4 n5 n6 g0 g1 h0' h1'
          obtain ⟨V, hV⟩ : ∃ V, w4.setCell ⟨G, 5, none⟩ (.int .i64 (rn : Int)) = V := ⟨_, rfl⟩
          have HEV := Lib.hid (show EvW T Q G n w d v cl (some ⟨b, off, none⟩) cc m E Ae ce ⟨tm, 6, p, 0, 0, rn, 0⟩ V from hV ▸ HE4.out.set 5 (.int .i64 (rn : Int)) ⟨tm, 6, p, 0, 0, rn, 0⟩ rfl)
          have q4 : w4.frozen? ⟨G, 5, none⟩ = false := frozen_of_row _ _ _ _ _ HE4.out.xb
          have q5 := (accCells HE4.out.xb)
          unfold AcAt at q5
          obtain ⟨c0, c1, c2, c3, c4, c5, c6⟩ := q5
          simp only at c0 c1 c2 c3 c4 c5 c6
          obtain ⟨n0, n1, n2, n3, n4, n5, n6⟩ := accCells (x := ⟨tm, 6, p, 0, 0, rn, 0⟩) HEV.out.xb
          simp only at n0 n1 n2 n3 n4 n5 n6
          obtain ⟨g0, g1⟩ := geCells HEV.out.q
          obtain ⟨h0', h1'⟩ := gdCells HEV.out.z
          have HFIT := Lib.hid (show fitP n ⟨tm, 6, p, 0, 0, rn, 0⟩ by simp [fitP]; (first | done | omega))
          go_wp2_with (at_builtin; refine wpList_append_own _ rfl (.tmp 69) (.tmp 71) 26 rfl w.heap.size 76 j0 (.agg #[.int .i64 0, .int .i64 0, .int .i64 0, .int .i64 0, .int .i64 0, .int .i64 0, .int .i64 0]) 7 56 Tryz.underlying26 HJ.out HJ0.out HJ1.out HJ2.out rfl (by decide) _ E.length (av E) rfl (HEV.out.o.alloc _) ⟨V.heap.size, 0, none⟩ 1 1 [.int .i64 (tm : Int), .int .i64 6, .int .i64 (p : Int), .int .i64 0, .int .i64 0, .int .i64 (rn : Int), .int .i64 0] rfl rfl (World.news_of_block (heap_alloc_new V _)) (by simp [Value.oneCell']) (by unfold maxLen; omega) (by omega) (by have := HEV.out.g.size; simp; omega) ?_; intro v' w12 hown hgr _; obtain ⟨A', c', rfl⟩ := own_form hown; have Q12 := Lib.hid (HEV.out.q12 hgr); have HCLO := Lib.hid (ERel.close hlj HOK.out HLT.out hlt hm15 HAS.out HCL.out HTM.out HFIT.out HPN.out rfl HEV.out.q HEV.out.qw HEV.out.o HEV.out.c HEV.out.z HEV.out.z1 HEV.out.g HEV.out.t hT hgr hown); clear hown hgr; obtain ⟨r0, r1⟩ := geCells Q12.out; have r2 : w12.frozen? ⟨Q, 1, none⟩ = false := frozen_of_row _ _ _ _ _ Q12.out)
          rw [setCell_eq_setRow w12 Q 1 _ _ _ _ Q12.out]
          exact ⟨⟨j + 1, by omega, by go_num, HCLO.out⟩, by simp [intOf]; omega⟩
        · obtain ⟨n0, n1, n2, n3, n4, n5, n6⟩ := accCells (x := ⟨tm, 7, p, 0, 0, 0, 0⟩) HEV0.out.xb
          simp only at n0 n1 n2 n3 n4 n5 n6
          obtain ⟨g0, g1⟩ := geCells HEV0.out.q
          obtain ⟨h0', h1'⟩ := gdCells HEV0.out.z
          have HNX2 := Lib.hid (next_any T (n) W HEV0.out.t (by omega) (by omega))
          go_wp2_with fail
          refine HNX2.out.mono ?_
          rintro e w4 ⟨r, r0, r1, rfl, hg4, ht4⟩
          obtain ⟨rn, rfl⟩ : ∃ rn : Nat, r = rn := ⟨r.toNat, by omega⟩
          have HE4 := Lib.hid (HEV0.out.next hg4 ht4)
          clear hg4 ht4
          clear n0 n1 n2 n3 n4 n5 n6 g0 g1 h0' h1'
          obtain ⟨V, hV⟩ : ∃ V, w4.setCell ⟨G, 6, none⟩ (.int .i64 (rn : Int)) = V := ⟨_, rfl⟩
          have HEV := Lib.hid (show EvW T Q G n w d v cl (some ⟨b, off, none⟩) cc m E Ae ce ⟨tm, 7, p, 0, 0, 0, rn⟩ V from hV ▸ HE4.out.set 6 (.int .i64 (rn : Int)) ⟨tm, 7, p, 0, 0, 0, rn⟩ rfl)
          have q4 : w4.frozen? ⟨G, 6, none⟩ = false := frozen_of_row _ _ _ _ _ HE4.out.xb
          have q5 := (accCells HE4.out.xb)
          unfold AcAt at q5
          obtain ⟨c0, c1, c2, c3, c4, c5, c6⟩ := q5
          simp only at c0 c1 c2 c3 c4 c5 c6
          obtain ⟨n0, n1, n2, n3, n4, n5, n6⟩ := accCells (x := ⟨tm, 7, p, 0, 0, 0, rn⟩) HEV.out.xb
          simp only at n0 n1 n2 n3 n4 n5 n6
          obtain ⟨g0, g1⟩ := geCells HEV.out.q
          obtain ⟨h0', h1'⟩ := gdCells HEV.out.z
          by_cases hsame : rn = p
          · have e1 : ((rn : Int) == (p : Int)) = true := by rw [hsame]; simp
            clear hsame
            go_wp2_with fail
            exact ⟨⟨j + 1, by omega, by go_num, ERel.same hlj HOK.out HLT.out HEV.out.q HEV.out.o HEV.out.c HEV.out.z HEV.out.z1 HEV.out.g HEV.out.t⟩, by simp [intOf]; omega⟩
          · have e1 : ((rn : Int) == (p : Int)) = false := beq_eq_false_iff_ne.2 (by omega)
            have HFIT := Lib.hid (show fitP n ⟨tm, 7, p, 0, 0, 0, rn⟩ by simp [fitP]; (first | done | omega))
            go_wp2_with (at_builtin; refine wpList_append_own _ rfl (.tmp 69) (.tmp 71) 26 rfl w.heap.size 76 j0 (.agg #[.int .i64 0, .int .i64 0, .int .i64 0, .int .i64 0, .int .i64 0, .int .i64 0, .int .i64 0]) 7 56 Tryz.underlying26 HJ.out HJ0.out HJ1.out HJ2.out rfl (by decide) _ E.length (av E) rfl (HEV.out.o.alloc _) ⟨V.heap.size, 0, none⟩ 1 1 [.int .i64 (tm : Int), .int .i64 7, .int .i64 (p : Int), .int .i64 0, .int .i64 0, .int .i64 0, .int .i64 (rn : Int)] rfl rfl (World.news_of_block (heap_alloc_new V _)) (by simp [Value.oneCell']) (by unfold maxLen; omega) (by omega) (by have := HEV.out.g.size; simp; omega) ?_; intro v' w12 hown hgr _; obtain ⟨A', c', rfl⟩ := own_form hown; have Q12 := Lib.hid (HEV.out.q12 hgr); have HCLO := Lib.hid (ERel.close hlj HOK.out HLT.out hlt hm15 HAS.out HCL.out HTM.out HFIT.out HPN.out rfl HEV.out.q HEV.out.qw HEV.out.o HEV.out.c HEV.out.z HEV.out.z1 HEV.out.g HEV.out.t hT hgr hown); clear hown hgr; obtain ⟨r0, r1⟩ := geCells Q12.out; have r2 : w12.frozen? ⟨Q, 1, none⟩ = false := frozen_of_row _ _ _ _ _ Q12.out)
            rw [setCell_eq_setRow w12 Q 1 _ _ _ _ Q12.out]
            exact ⟨⟨j + 1, by omega, by go_num, HCLO.out⟩, by simp [intOf]; omega⟩
    · obtain rfl : m = j := by omega
      clear hown hoc hz hz1 hq hgb htp
      have HMK := Lib.hid (⟨HOK.out, hn1, by show E.length ≤ 15; omega, fun i hi => (HLT.out i hi).1⟩ : MkE ⟨n, E⟩)
      obtain ⟨z0, z1, z2, z3⟩ := zeCells HZ1.out
      have HR := Lib.hid (setRow_heap wr (w.heap.size + 1) _ (ge ⟨n, E⟩ ⟨Ae, ce⟩) _ _ HZ1.out)
      have HEL := Lib.hid (row_of_own (kept_ne HO.out (gb_setRow wr (w.heap.size + 1) (ge ⟨n, E⟩ ⟨Ae, ce⟩)) (fun g e => by cases e; exact own_not HO.out HZ1.out (by decide))))
      go_wp2_with fail
      rw [set2row (g := w.heap.size + 1) HZ1.out rfl]
      exact bodyPost_ret (v := .agg (ge ⟨n, E⟩ ⟨Ae, ce⟩)) (results_cell_row rfl _ _ (w.heap.size + 1) 28 (ge ⟨n, E⟩ ⟨Ae, ce⟩) (0, 0) _ rfl HR.out Tryz.underlying28 rfl (infoEs _ _)) rfl ⟨_, _, rfl, HMK.out, HEL.out, gb_far HGB.out (by omega) _, tape_set HTP.out (by omega) _, own_cap HO.out⟩

end Go.Proofs.YtgknfkmojhganaaGreat.Di.T
