import Derived.Test.YtgknfkmojhganaaGreatAcI
namespace Go.Proofs.YtgknfkmojhganaaGreat.Di
open Go.RowKit
open Go.Proofs.YtgknfkmojhganaaGreat.Tp
set_option linter.unusedVariables false

/-- The made estate, and how long its row of events may grow. -/
def EsPostC (T : Nat) (w : World) (e : Ending) (w' : World) : Prop := ∃ (a : Es) (v : Ve), e = .returned (.agg (ge a v)) ∧ MkE a ∧ EL w' w.heap.size a v ∧ w.grownBy w' (some T) ∧ TapeOk w' T ∧ a.e.length ≤ v.c
theorem own_cap {w : World} {base e s n c : Nat} {A : Option Addr} {xs : List Value} (h : w.ownsRow base e s (.slice A n c) n xs) : n ≤ c := by
  rcases h.2 with ⟨_, e⟩ | ⟨g, cap, cur, e1, hg, hh, hnc, _⟩
  · omega
  · cases e1; exact hnc
set_option maxRecDepth 100000 in
set_option maxHeartbeats 8000000 in
theorem estate_cap (T : Nat) (d : Dy) (v : Vd) (w : World) (h : TapeOk w T) (hT : T < w.heap.size) (h1 : 1 ≤ d.k.length) (h2 : d.k.length ≤ 7) :
    Calls Tryz.prog 11 #[.pointer (some ⟨T, 0, none⟩), .agg (gd d v)] w (EsPostC T w) := by
  have hb2 := (box_below w (.cells (gd d v) 25)).trans ((box_below (w.alloc (.cells (gd d v) 25)) (.cells zE 28)).mono (by simp))
  have HT := Lib.hid (tape_below h hb2)
  have HG := Lib.hid (gb_row (gb_of_below hb2) : w.grownBy _ (some T))
  have R0 := Lib.hid ((heap_alloc_old (w.alloc (.cells (gd d v) 25)) (.cells zE 28) (by simp)).trans (heap_alloc_new w (.cells (gd d v) 25)))
  have r1 := heap_alloc_new (w.alloc (.cells (gd d v) 25)) (.cells zE 28)
  rw [show (w.alloc (.cells (gd d v) 25)).heap.size = w.heap.size + 1 by simp] at r1
  have R1 := Lib.hid r1
  clear h hb2 r1
  obtain ⟨j0, hj1, hy0, hy1, hy2⟩ := info_parts zinfoAc
  have HJ := Lib.hid hj1
  have HJ0 := Lib.hid hy0
  have HJ1 := Lib.hid hy1
  have HJ2 := Lib.hid hy2
  clear hj1 hy0 hy1 hy2
  go_enter Tryz.func11, Tryz.ntmps11
  go_wp2_with fail
  refine (between_any T 1 4 _ HT.out (by omega) (by omega) (by omega) (by omega)).mono ?_
  rintro e w1 ⟨n, hn0, hn1, rfl, hg1, ht1⟩
  have hg1' := gb_trans HG.out hg1
  have S0 := Lib.hid ((hg1.block _ (row_lt R0.out) (by simp; omega)).trans R0.out)
  have S1 := Lib.hid ((hg1.block _ (row_lt R1.out) (by simp; omega)).trans R1.out)
  have HG1 := Lib.hid hg1'
  have HT1 := Lib.hid ht1
  clear hg1 ht1 hg1' HT HG R0 R1
  go_wp2_with fail
  have hbq := box_below w1 (.cells #[.int .i64 n, .slice none 0 0] 28)
  have HT1q := Lib.hid (tape_below HT1.out hbq)
  have HQ := Lib.hid (show (w1.alloc (.cells #[.int .i64 n, .slice none 0 0] 28)).heap[w1.heap.size]? = some (.cells (ge ⟨n, []⟩ ⟨none, 0⟩) 28 (0, 0)) from heap_alloc_new w1 _)
  have Q0 := Lib.hid ((hbq.block _ (row_lt S0.out)).trans S0.out)
  have Q1 := Lib.hid ((hbq.block _ (row_lt S1.out)).trans S1.out)
  have HGq := Lib.hid (gb_alloc2 HG1.out (.cells #[.int .i64 n, .slice none 0 0] 28))
  have hsz1 : w.heap.size + 2 ≤ w1.heap.size := by have := row_lt S1.out; omega
  clear hbq HT1 HG1 S0 S1
  generalize w1.alloc (.cells #[.int .i64 n, .slice none 0 0] 28) = wq at *
  generalize w1.heap.size = Q at *
  have hTq : T < wq.heap.size := by have := HGq.out.size; omega
  refine (next_any T 16 _ HT1q.out (by omega) (by omega)).mono ?_
  rintro e w2 ⟨zm, zm0, zm1, rfl, hg2, ht2⟩
  obtain ⟨m, rfl⟩ : ∃ k : Nat, zm = k := ⟨zm.toNat, by omega⟩
  have hTw2 : T < w2.heap.size := by have := hg2.size; omega
  have HCK := Lib.hid (clock_any T m w2 ht2 hTw2 (by omega))
  have HQ2 := Lib.hid ((hg2.block _ (row_lt HQ.out) (by simp; omega)).trans HQ.out)
  have Q02 := Lib.hid ((hg2.block _ (row_lt Q0.out) (by simp; omega)).trans Q0.out)
  have Q12 := Lib.hid ((hg2.block _ (row_lt Q1.out) (by simp; omega)).trans Q1.out)
  have HG2 := Lib.hid (gb_trans HGq.out hg2)
  clear hg2 ht2 HQ Q0 Q1 HGq HT1q
  go_wp2_with fail
  refine HCK.out.mono ?_
  rintro e w3 ⟨cl, Acl, cc, rfl, hcll, hasc, hcown, hg3, ht3⟩
  have HQ3 := Lib.hid ((hg3.block _ (row_lt HQ2.out) (by simp; omega)).trans HQ2.out)
  have Q03 := Lib.hid ((hg3.block _ (row_lt Q02.out) (by simp; omega)).trans Q02.out)
  have Q13 := Lib.hid ((hg3.block _ (row_lt Q12.out) (by simp; omega)).trans Q12.out)
  have HG3 := Lib.hid (gb_trans HG2.out hg3)
  have HOC := Lib.hid (own_base hcown (show w.heap.size ≤ w2.heap.size from HG2.out.size))
  have HT3 := Lib.hid ht3
  have HCL := Lib.hid hcll
  have HAS := Lib.hid hasc
  clear hg3 ht3 hcll hasc hcown HCK HQ2 Q02 Q12 HG2
  go_wp2_with fail
  go_loopw [17] (fun jj wr => ∃ j : Nat, j ≤ m ∧ jj = .int .i64 (j : Int) ∧ ERel T Q n w d v cl Acl cc m j wr) (fun jj _ => m - (intOf jj).toNat)
  case atStart => exact ⟨0, by omega, rfl, [], none, 0, by simp, Eok.nil hn0 (by omega), fun i hi => absurd hi (by simp), HQ3.out, own_nil _ _ _ _, HOC.out, Q03.out, Q13.out, HG3.out, HT3.out⟩
  case round =>
    obtain ⟨j, hj, rfl, E, Ae, ce, hlj, hok, hlt', hq, hown, hoc, hz, hz1, hgb, htp⟩ := hrel
    have HOK := Lib.hid hok
    have HLT := Lib.hid hlt'
    have HO := Lib.hid hown
    have HC := Lib.hid hoc
    have HZ := Lib.hid hz
    have HZ1 := Lib.hid hz1
    have HQR := Lib.hid hq
    have HGB := Lib.hid hgb
    have HTP := Lib.hid htp
    have hszr := hgb.size
    have lq := row_lt hq
    obtain ⟨g0, g1⟩ := geCells hq
    clear HOC HQ3 Q03 Q13 HG3 HT3 hok hlt'
    by_cases hlt : j < m
    · obtain ⟨b, off, e6, -, -, y0⟩ := (row_of_own hoc).int hlt
      have hAc : Acl = some ⟨b, off, none⟩ := e6
      subst hAc
      obtain ⟨tm, htm⟩ : ∃ t, cl.getD j 0 = t := ⟨_, rfl⟩
      rw [htm] at y0
      have HTM := Lib.hid htm
      have i0' : (0 : Int) ≤ (j : Int) := by omega
      have i1' : (j : Int) < (m : Int) := by omega
      have hTr : T < wr.heap.size := by omega
      have HNX := Lib.hid (fun (w' : World) (h : TapeOk w' T) => next_any T n w' h (by omega) (by omega))
      have HPK := Lib.hid (fun (w' : World) (G : Nat) (h : TapeOk w' T) (hr : Row w' wr.heap.size 1 (some ⟨G, 0, none⟩) 10 (iv ten)) => pick_any T wr.heap.size 10 10 (some ⟨G, 0, none⟩) ten w' h hr (by omega) (by omega) (by omega))
      clear hown hoc hz hz1 hq hgb htp htm
      go_upto_region 5 with fail
      go_cut [8] from 21 to 29 (fun s8 wx => ∃ (k : Nat) (p : Nat) (G : Nat), s8 = .pointer (some ⟨G, 0, none⟩) ∧ (1 ≤ k ∧ k ≤ 7) ∧ (p : Int) < n ∧ wr.heap.size ≤ G ∧ wx.heap[G]? = some (.cells #[.int .i64 (tm : Int), .int .i64 (k : Int), .int .i64 (p : Int), .int .i64 0, .int .i64 0, .int .i64 0, .int .i64 0] 76 (0, 0)) ∧ wr.grownBy wx (some T) ∧ TapeOk wx T)
      case first =>
        -- CUT
        have LQ := Lib.hid lq
        go_region_law (first
          | (go_simp; go_at_call 39; (with_reducible refine (HPK.out _ _ ?_ ?_).mono ?_); (first | exact TN.out | exact tape_new2 TN.out _ | exact tape_new2 (tape_new2 TN.out _) _); (first | exact lits_lA (heap_alloc_new wn lA) GN.out.size | exact lits_lA (at1 wn lA zA) GN.out.size | exact lits_lA (at2 wn zA lA) (Nat.le_succ_of_le GN.out.size) | exact lits_lA LN.out LNb.out | exact lits_lA ((heap_alloc_old wn zA (row_lt LN.out)).trans LN.out) LNb.out); (rintro e wl ⟨z, hz4, rfl, hg0, ht0⟩; obtain ⟨k, hk⟩ : ∃ k, ten.getD z 0 = k := ⟨_, rfl⟩; rw [hk]; have HK7 := Lib.hid (show 1 ≤ k ∧ k ≤ 7 from hk ▸ ten_rng z hz4); have GL := Lib.hid (show wr.grownBy wl (some T) from (by first | exact gb_trans GN.out ⟨hg0.os, hg0.tape, hg0.output, hg0.size, hg0.block⟩ | exact gb_trans (gb_alloc2 GN.out _) ⟨hg0.os, hg0.tape, hg0.output, hg0.size, hg0.block⟩ | exact gb_trans (gb_alloc2 (gb_alloc2 GN.out _) _) ⟨hg0.os, hg0.tape, hg0.output, hg0.size, hg0.block⟩)); have TL := Lib.hid ht0; (first | (have ZL := Lib.hid (show wl.heap[wn.heap.size]? = some zA from (by first | exact (hg0.block (wn.heap.size) (by first | (simp; done) | (simp; omega)) (fun e => by injection e; omega)).trans (heap_alloc_new wn zA) | exact (hg0.block (wn.heap.size) (by first | (simp; done) | (simp; omega)) (fun e => by injection e; omega)).trans (at1 wn zA lA)))) | (have ZL := Lib.hid (show wl.heap[wn.heap.size + 1]? = some zA from (hg0.block (wn.heap.size + 1) (by first | (simp; done) | (simp; omega)) (fun e => by injection e; omega)).trans (at2 wn lA zA))) | (have ZL := Lib.hid ((hg0.block _ (row_lt ZN.out) (fun e => by injection e; have := ZNb.out; omega)).trans ZN.out)) | (have ZL := Lib.hid ((hg0.block _ (Nat.lt_of_lt_of_le (row_lt ZN.out) (by simp)) (fun e => by injection e; have := ZNb.out; omega)).trans ((heap_alloc_old _ _ (row_lt ZN.out)).trans ZN.out))) | skip); (first | (have zz := xc7 ZL.out; obtain ⟨⟨x0, x1, x2, x3, x4, x5, x6⟩, f0, f1, f2, f3, f4, f5, f6⟩ := zz) | skip); (first | clear hg0 | skip); (first | clear ht0 | skip); (first | clear hk | skip); (first | clear hz4 | skip)))
          | (go_simp; go_at_call 12; (with_reducible refine (HNX.out _ ?_).mono ?_); (first | exact TP.out | exact tape_new2 TP.out _ | exact tape_new2 (tape_new2 TP.out _) _); (rintro e wl ⟨zp, zp0, zp1, rfl, hg0, ht0⟩; obtain ⟨p, rfl⟩ : ∃ p : Nat, zp = p := ⟨zp.toNat, by omega⟩; have HPL := Lib.hid (show (p : Int) < n by omega); have GL := Lib.hid (show wr.grownBy wl (some T) from (by first | exact gb_trans GP.out ⟨hg0.os, hg0.tape, hg0.output, hg0.size, hg0.block⟩ | exact gb_trans (gb_alloc2 GP.out _) ⟨hg0.os, hg0.tape, hg0.output, hg0.size, hg0.block⟩ | exact gb_trans (gb_alloc2 (gb_alloc2 GP.out _) _) ⟨hg0.os, hg0.tape, hg0.output, hg0.size, hg0.block⟩)); have TL := Lib.hid ht0; (first | (have ZL := Lib.hid (show wl.heap[wp.heap.size]? = some zA from (by first | exact (hg0.block (wp.heap.size) (by first | (simp; done) | (simp; omega)) (fun e => by injection e; omega)).trans (heap_alloc_new wp zA) | exact (hg0.block (wp.heap.size) (by first | (simp; done) | (simp; omega)) (fun e => by injection e; omega)).trans (at1 wp zA lA)))) | (have ZL := Lib.hid (show wl.heap[wp.heap.size + 1]? = some zA from (hg0.block (wp.heap.size + 1) (by first | (simp; done) | (simp; omega)) (fun e => by injection e; omega)).trans (at2 wp lA zA))) | (have ZL := Lib.hid ((hg0.block _ (row_lt ZP.out) (fun e => by injection e; have := ZPb.out; omega)).trans ZP.out)) | (have ZL := Lib.hid ((hg0.block _ (Nat.lt_of_lt_of_le (row_lt ZP.out) (by simp)) (fun e => by injection e; have := ZPb.out; omega)).trans ((heap_alloc_old _ _ (row_lt ZP.out)).trans ZP.out))) | skip); (first | (have zz := xc7 ZL.out; obtain ⟨⟨x0, x1, x2, x3, x4, x5, x6⟩, f0, f1, f2, f3, f4, f5, f6⟩ := zz) | skip); (first | clear hg0 | skip); (first | clear ht0 | skip); (first | clear zp0 zp1 | skip)))
          | (go_simp; go_at_call 39; (with_reducible refine (HPK.out _ _ ?_ ?_).mono ?_); (first | exact HTP.out | exact tape_new2 HTP.out _ | exact tape_new2 (tape_new2 HTP.out _) _); (first | exact lits_lA (heap_alloc_new wr lA) (Nat.le_refl _) | exact lits_lA (at1 wr lA zA) (Nat.le_refl _) | exact lits_lA (at2 wr zA lA) (Nat.le_succ _)); (rintro e wp ⟨z, hz4, rfl, hg0, ht0⟩; obtain ⟨k, hk⟩ : ∃ k, ten.getD z 0 = k := ⟨_, rfl⟩; rw [hk]; have HK7 := Lib.hid (show 1 ≤ k ∧ k ≤ 7 from hk ▸ ten_rng z hz4); have GP := Lib.hid (show wr.grownBy wp (some T) from (by first | exact ⟨hg0.os, hg0.tape, hg0.output, hg0.size, hg0.block⟩ | exact gb_trans (gb_row (gb_of_below (box_below wr _))) ⟨hg0.os, hg0.tape, hg0.output, hg0.size, hg0.block⟩ | exact gb_trans (gb_alloc2 (gb_row (gb_of_below (box_below wr _))) _) ⟨hg0.os, hg0.tape, hg0.output, hg0.size, hg0.block⟩)); have TP := Lib.hid ht0; have hTp : T < wp.heap.size := Nat.lt_of_lt_of_le hTr GP.out.size; have lqp : Q < wp.heap.size := Nat.lt_of_lt_of_le lq GP.out.size; have u0 : wp.cell? ⟨Q, 0, none⟩ = some (.int .i64 n) := (geCells ((GP.out.block Q lq (fun e => by injection e; omega)).trans HQR.out)).1; (first | (have ZP := Lib.hid (show wp.heap[wr.heap.size]? = some zA from (by first | exact (hg0.block (wr.heap.size) (by first | (simp; done) | (simp; omega)) (fun e => by injection e; omega)).trans (heap_alloc_new wr zA) | exact (hg0.block (wr.heap.size) (by first | (simp; done) | (simp; omega)) (fun e => by injection e; omega)).trans (at1 wr zA lA))); have ZPb := Lib.hid (Nat.le_refl wr.heap.size)) | (have ZP := Lib.hid (show wp.heap[wr.heap.size + 1]? = some zA from (hg0.block (wr.heap.size + 1) (by first | (simp; done) | (simp; omega)) (fun e => by injection e; omega)).trans (at2 wr lA zA)); have ZPb := Lib.hid (Nat.le_succ wr.heap.size)) | skip); (first | (have zz := xc7 ZP.out; obtain ⟨⟨x0, x1, x2, x3, x4, x5, x6⟩, f0, f1, f2, f3, f4, f5, f6⟩ := zz) | skip); (first | clear hg0 | skip); (first | clear ht0 | skip); (first | clear hk | skip); (first | clear hz4 | skip)))
          | (go_simp; go_at_call 12; (with_reducible refine (HNX.out _ ?_).mono ?_); (first | exact HTP.out | exact tape_new2 HTP.out _ | exact tape_new2 (tape_new2 HTP.out _) _); (rintro e wn ⟨zp, zp0, zp1, rfl, hg0, ht0⟩; obtain ⟨p, rfl⟩ : ∃ p : Nat, zp = p := ⟨zp.toNat, by omega⟩; have HPL := Lib.hid (show (p : Int) < n by omega); have GN := Lib.hid (show wr.grownBy wn (some T) from (by first | exact ⟨hg0.os, hg0.tape, hg0.output, hg0.size, hg0.block⟩ | exact gb_trans (gb_row (gb_of_below (box_below wr _))) ⟨hg0.os, hg0.tape, hg0.output, hg0.size, hg0.block⟩ | exact gb_trans (gb_alloc2 (gb_row (gb_of_below (box_below wr _))) _) ⟨hg0.os, hg0.tape, hg0.output, hg0.size, hg0.block⟩)); have TN := Lib.hid ht0; have hTn : T < wn.heap.size := Nat.lt_of_lt_of_le hTr GN.out.size; have lqn : Q < wn.heap.size := Nat.lt_of_lt_of_le lq GN.out.size; have u0 : wn.cell? ⟨Q, 0, none⟩ = some (.int .i64 n) := (geCells ((GN.out.block Q lq (fun e => by injection e; omega)).trans HQR.out)).1; (first | (have ZN := Lib.hid (show wn.heap[wr.heap.size]? = some zA from (by first | exact (hg0.block (wr.heap.size) (by first | (simp; done) | (simp; omega)) (fun e => by injection e; omega)).trans (heap_alloc_new wr zA) | exact (hg0.block (wr.heap.size) (by first | (simp; done) | (simp; omega)) (fun e => by injection e; omega)).trans (at1 wr zA lA))); have ZNb := Lib.hid (Nat.le_refl wr.heap.size)) | (have ZN := Lib.hid (show wn.heap[wr.heap.size + 1]? = some zA from (hg0.block (wr.heap.size + 1) (by first | (simp; done) | (simp; omega)) (fun e => by injection e; omega)).trans (at2 wr lA zA)); have ZNb := Lib.hid (Nat.le_succ wr.heap.size)) | skip); (first | (have LN := Lib.hid (show wn.heap[wr.heap.size]? = some lA from (by first | exact (hg0.block (wr.heap.size) (by first | (simp; done) | (simp; omega)) (fun e => by injection e; omega)).trans (heap_alloc_new wr lA) | exact (hg0.block (wr.heap.size) (by first | (simp; done) | (simp; omega)) (fun e => by injection e; omega)).trans (at1 wr lA zA))); have LNb := Lib.hid (Nat.le_refl wr.heap.size)) | (have LN := Lib.hid (show wn.heap[wr.heap.size + 1]? = some lA from (hg0.block (wr.heap.size + 1) (by first | (simp; done) | (simp; omega)) (fun e => by injection e; omega)).trans (at2 wr zA lA)); have LNb := Lib.hid (Nat.le_succ wr.heap.size)) | skip); (first | (have zz := xc7 ZN.out; obtain ⟨⟨x0, x1, x2, x3, x4, x5, x6⟩, f0, f1, f2, f3, f4, f5, f6⟩ := zz) | skip); (first | clear hg0 | skip); (first | clear ht0 | skip); (first | clear zp0 zp1 | skip))))
        all_goals
          go_wp2_with fail
          go_meet
          case rel =>
            first
              | exact ⟨k, p, _, rfl, HK7.out, HPL.out, GL.out.size, heap_alloc_new wl _, gb_alloc2 GL.out _, tape_new2 TL.out _⟩
              | (rw [set7row ZL.out rfl]; exact ⟨k, p, _, rfl, HK7.out, HPL.out, by first | exact Nat.le_refl _ | exact Nat.le_succ _ | exact GN.out.size | exact GP.out.size | exact Nat.le_succ_of_le GN.out.size | exact Nat.le_succ_of_le GP.out.size, setRow_heap _ _ _ _ _ _ ZL.out, gb_far GL.out (by first | exact Nat.le_refl _ | exact Nat.le_succ _ | exact GN.out.size | exact GP.out.size | exact Nat.le_succ_of_le GN.out.size | exact Nat.le_succ_of_le GP.out.size) _, tape_set TL.out (by first | omega | (have := GN.out.size; omega) | (have := GP.out.size; omega)) _⟩)
        -- END
      case rest =>
        obtain ⟨k, p, G, rfl, hk7, hpn, hG, hxb, hgx, htx⟩ := hcut
        rename World => W
        have HEV0 := Lib.hid (EvW.mk (x := ⟨(tm : Int), (k : Int), (p : Int), 0, 0, 0, 0⟩) hxb ((hgx.block _ lq (fun e => by injection e; omega)).trans HQR.out) (own_keepT HO.out hgx hT) (fun e => by have := (HO.out.lt _ e).2; omega) (own_keepT HC.out hgx hT) ((hgx.block _ (row_lt HZ.out) (fun e => by injection e; omega)).trans HZ.out) ((hgx.block _ (row_lt HZ1.out) (fun e => by injection e; omega)).trans HZ1.out) (gb_trans HGB.out hgx) htx hT hsz1 (by omega))
        have HPN := Lib.hid (show (0 : Int) ≤ (p : Int) ∧ (p : Int) < n by omega)
        have hm15 : m ≤ 15 := by omega
        have htm0 : (0 : Int) ≤ (tm : Int) := by omega
        have htm1 : tm ≤ 1000 := by rw [← HTM.out]; exact HAS.out.le j (by have := HCL.out; omega)
        have hGQ : G ≠ Q := by omega
        have hGw : G ≠ w.heap.size := by omega
        clear hxb hgx htx g0 g1 y0 hpn hG
        rcases (by omega : k = 1 ∨ k = 2 ∨ k = 3 ∨ k = 4 ∨ k = 5 ∨ k = 6 ∨ k = 7) with rfl | rfl | rfl | rfl | rfl | rfl | rfl
        · obtain ⟨n0, n1, n2, n3, n4, n5, n6⟩ := accCells (x := ⟨tm, 1, p, 0, 0, 0, 0⟩) HEV0.out.xb
          simp only at n0 n1 n2 n3 n4 n5 n6
          obtain ⟨g0, g1⟩ := geCells HEV0.out.q
          obtain ⟨h0', h1'⟩ := gdCells HEV0.out.z
          have hw1 : IntKind.i64.wrap ((d.k.length : Int) + 1) = (d.k.length : Int) + 1 := IntWalk.i64_in _ (by omega)
          have HNX2 := Lib.hid (next_any T ((d.k.length : Int) + 1) W HEV0.out.t (by omega) (by omega))
          go_wp2_with fail
          refine HNX2.out.mono ?_
          rintro e w4 ⟨r, r0, r1, rfl, hg4, ht4⟩
          obtain ⟨rn, rfl⟩ : ∃ rn : Nat, r = rn := ⟨r.toNat, by omega⟩
          have HE4 := Lib.hid (HEV0.out.next hg4 ht4)
          clear hg4 ht4
          clear n0 n1 n2 n3 n4 n5 n6 g0 g1 h0' h1'
          obtain ⟨V, hV⟩ : ∃ V, w4.setCell ⟨G, 3, none⟩ (.int .i64 (rn : Int)) = V := ⟨_, rfl⟩
          have HEV := Lib.hid (show EvW T Q G n w d v cl (some ⟨b, off, none⟩) cc m E Ae ce ⟨tm, 1, p, rn, 0, 0, 0⟩ V from hV ▸ HE4.out.set 3 (.int .i64 (rn : Int)) ⟨tm, 1, p, rn, 0, 0, 0⟩ rfl)
          have q4 : w4.frozen? ⟨G, 3, none⟩ = false := frozen_of_row _ _ _ _ _ HE4.out.xb
          have q5 := (accCells HE4.out.xb)
          unfold AcAt at q5
          obtain ⟨c0, c1, c2, c3, c4, c5, c6⟩ := q5
          simp only at c0 c1 c2 c3 c4 c5 c6
          obtain ⟨n0, n1, n2, n3, n4, n5, n6⟩ := accCells (x := ⟨tm, 1, p, rn, 0, 0, 0⟩) HEV.out.xb
          simp only at n0 n1 n2 n3 n4 n5 n6
          obtain ⟨g0, g1⟩ := geCells HEV.out.q
          obtain ⟨h0', h1'⟩ := gdCells HEV.out.z
          have HFIT := Lib.hid (show fitP n ⟨tm, 1, p, rn, 0, 0, 0⟩ by simp [fitP]; (first | done | omega))
          go_wp2_with (at_builtin; refine wpList_append_own _ rfl (.tmp 69) (.tmp 71) 26 rfl w.heap.size 76 j0 (.agg #[.int .i64 0, .int .i64 0, .int .i64 0, .int .i64 0, .int .i64 0, .int .i64 0, .int .i64 0]) 7 56 Tryz.underlying26 HJ.out HJ0.out HJ1.out HJ2.out rfl (by decide) _ E.length (av E) rfl (HEV.out.o.alloc _) ⟨V.heap.size, 0, none⟩ 1 1 [.int .i64 (tm : Int), .int .i64 1, .int .i64 (p : Int), .int .i64 (rn : Int), .int .i64 0, .int .i64 0, .int .i64 0] rfl rfl (World.news_of_block (heap_alloc_new V _)) (by simp [Value.oneCell']) (by unfold maxLen; omega) (by omega) (by have := HEV.out.g.size; simp; omega) ?_; intro v' w12 hown hgr _; obtain ⟨A', c', rfl⟩ := own_form hown; have Q12 := Lib.hid (HEV.out.q12 hgr); have HCLO := Lib.hid (ERel.close hlj HOK.out HLT.out hlt hm15 HAS.out HCL.out HTM.out HFIT.out HPN.out rfl HEV.out.q HEV.out.qw HEV.out.o HEV.out.c HEV.out.z HEV.out.z1 HEV.out.g HEV.out.t hT hgr hown); clear hown hgr; obtain ⟨r0, r1⟩ := geCells Q12.out; have r2 : w12.frozen? ⟨Q, 1, none⟩ = false := frozen_of_row _ _ _ _ _ Q12.out)
          rw [setCell_eq_setRow w12 Q 1 _ _ _ _ Q12.out]
          exact ⟨⟨j + 1, by omega, by go_num, HCLO.out⟩, by simp [intOf]; omega⟩
        · obtain ⟨n0, n1, n2, n3, n4, n5, n6⟩ := accCells (x := ⟨tm, 2, p, 0, 0, 0, 0⟩) HEV0.out.xb
          simp only at n0 n1 n2 n3 n4 n5 n6
          obtain ⟨g0, g1⟩ := geCells HEV0.out.q
          obtain ⟨h0', h1'⟩ := gdCells HEV0.out.z
          have hw1 : IntKind.i64.wrap ((d.k.length : Int) + 1) = (d.k.length : Int) + 1 := IntWalk.i64_in _ (by omega)
          have HNX2 := Lib.hid (next_any T ((d.k.length : Int) + 1) W HEV0.out.t (by omega) (by omega))
          go_wp2_with fail
          refine HNX2.out.mono ?_
          rintro e w4 ⟨r, r0, r1, rfl, hg4, ht4⟩
          obtain ⟨rn, rfl⟩ : ∃ rn : Nat, r = rn := ⟨r.toNat, by omega⟩
          have HE4 := Lib.hid (HEV0.out.next hg4 ht4)
          clear hg4 ht4
          clear n0 n1 n2 n3 n4 n5 n6 g0 g1 h0' h1'
          obtain ⟨V, hV⟩ : ∃ V, w4.setCell ⟨G, 3, none⟩ (.int .i64 (rn : Int)) = V := ⟨_, rfl⟩
          have HEV := Lib.hid (show EvW T Q G n w d v cl (some ⟨b, off, none⟩) cc m E Ae ce ⟨tm, 2, p, rn, 0, 0, 0⟩ V from hV ▸ HE4.out.set 3 (.int .i64 (rn : Int)) ⟨tm, 2, p, rn, 0, 0, 0⟩ rfl)
          have q4 : w4.frozen? ⟨G, 3, none⟩ = false := frozen_of_row _ _ _ _ _ HE4.out.xb
          have q5 := (accCells HE4.out.xb)
          unfold AcAt at q5
          obtain ⟨c0, c1, c2, c3, c4, c5, c6⟩ := q5
          simp only at c0 c1 c2 c3 c4 c5 c6
          obtain ⟨n0, n1, n2, n3, n4, n5, n6⟩ := accCells (x := ⟨tm, 2, p, rn, 0, 0, 0⟩) HEV.out.xb
          simp only at n0 n1 n2 n3 n4 n5 n6
          obtain ⟨g0, g1⟩ := geCells HEV.out.q
          obtain ⟨h0', h1'⟩ := gdCells HEV.out.z
          have HFIT := Lib.hid (show fitP n ⟨tm, 2, p, rn, 0, 0, 0⟩ by simp [fitP]; (first | done | omega))
          go_wp2_with (at_builtin; refine wpList_append_own _ rfl (.tmp 69) (.tmp 71) 26 rfl w.heap.size 76 j0 (.agg #[.int .i64 0, .int .i64 0, .int .i64 0, .int .i64 0, .int .i64 0, .int .i64 0, .int .i64 0]) 7 56 Tryz.underlying26 HJ.out HJ0.out HJ1.out HJ2.out rfl (by decide) _ E.length (av E) rfl (HEV.out.o.alloc _) ⟨V.heap.size, 0, none⟩ 1 1 [.int .i64 (tm : Int), .int .i64 2, .int .i64 (p : Int), .int .i64 (rn : Int), .int .i64 0, .int .i64 0, .int .i64 0] rfl rfl (World.news_of_block (heap_alloc_new V _)) (by simp [Value.oneCell']) (by unfold maxLen; omega) (by omega) (by have := HEV.out.g.size; simp; omega) ?_; intro v' w12 hown hgr _; obtain ⟨A', c', rfl⟩ := own_form hown; have Q12 := Lib.hid (HEV.out.q12 hgr); have HCLO := Lib.hid (ERel.close hlj HOK.out HLT.out hlt hm15 HAS.out HCL.out HTM.out HFIT.out HPN.out rfl HEV.out.q HEV.out.qw HEV.out.o HEV.out.c HEV.out.z HEV.out.z1 HEV.out.g HEV.out.t hT hgr hown); clear hown hgr; obtain ⟨r0, r1⟩ := geCells Q12.out; have r2 : w12.frozen? ⟨Q, 1, none⟩ = false := frozen_of_row _ _ _ _ _ Q12.out)
          rw [setCell_eq_setRow w12 Q 1 _ _ _ _ Q12.out]
          exact ⟨⟨j + 1, by omega, by go_num, HCLO.out⟩, by simp [intOf]; omega⟩
        · obtain ⟨n0, n1, n2, n3, n4, n5, n6⟩ := accCells (x := ⟨tm, 3, p, 0, 0, 0, 0⟩) HEV0.out.xb
          simp only at n0 n1 n2 n3 n4 n5 n6
          obtain ⟨g0, g1⟩ := geCells HEV0.out.q
          obtain ⟨h0', h1'⟩ := gdCells HEV0.out.z
          have hw1 : IntKind.i64.wrap ((tm : Int) + 1) = (tm : Int) + 1 := IntWalk.i64_in _ (by omega)
          have HNX2 := Lib.hid (next_any T (5) W HEV0.out.t (by omega) (by omega))
          go_wp2_with fail
          refine HNX2.out.mono ?_
          rintro e w4 ⟨r, r0, r1, rfl, hg4, ht4⟩
          obtain ⟨rn, rfl⟩ : ∃ rn : Nat, r = rn := ⟨r.toNat, by omega⟩
          have HE4 := Lib.hid (HEV0.out.next hg4 ht4)
          clear hg4 ht4
          clear n0 n1 n2 n3 n4 n5 n6 g0 g1 h0' h1'
          have hw2 : IntKind.i64.wrap ((tm : Int) + 1 + (rn : Int)) = (tm : Int) + 1 + (rn : Int) := IntWalk.i64_in _ (by omega)
          obtain ⟨un, hun⟩ : ∃ un : Nat, tm + 1 + rn = un := ⟨_, rfl⟩
          have hun2 : (tm : Int) + 1 + (rn : Int) = (un : Int) := by omega
          have hun3 : un ≤ 2000 := by omega
          obtain ⟨V, hV⟩ : ∃ V, w4.setCell ⟨G, 4, none⟩ (.int .i64 (un : Int)) = V := ⟨_, rfl⟩
          have HEV := Lib.hid (show EvW T Q G n w d v cl (some ⟨b, off, none⟩) cc m E Ae ce ⟨tm, 3, p, 0, un, 0, 0⟩ V from hV ▸ HE4.out.set 4 (.int .i64 (un : Int)) ⟨tm, 3, p, 0, un, 0, 0⟩ rfl)
          have q4 : w4.frozen? ⟨G, 4, none⟩ = false := frozen_of_row _ _ _ _ _ HE4.out.xb
          have q5 := (accCells HE4.out.xb)
          unfold AcAt at q5
          obtain ⟨c0, c1, c2, c3, c4, c5, c6⟩ := q5
          simp only at c0 c1 c2 c3 c4 c5 c6
          obtain ⟨n0, n1, n2, n3, n4, n5, n6⟩ := accCells (x := ⟨tm, 3, p, 0, un, 0, 0⟩) HEV.out.xb
          simp only at n0 n1 n2 n3 n4 n5 n6
          obtain ⟨g0, g1⟩ := geCells HEV.out.q
          obtain ⟨h0', h1'⟩ := gdCells HEV.out.z
          have HFIT := Lib.hid (show fitP n ⟨tm, 3, p, 0, un, 0, 0⟩ by simp [fitP]; (first | done | omega))
          go_wp2_with (at_builtin; refine wpList_append_own _ rfl (.tmp 69) (.tmp 71) 26 rfl w.heap.size 76 j0 (.agg #[.int .i64 0, .int .i64 0, .int .i64 0, .int .i64 0, .int .i64 0, .int .i64 0, .int .i64 0]) 7 56 Tryz.underlying26 HJ.out HJ0.out HJ1.out HJ2.out rfl (by decide) _ E.length (av E) rfl (HEV.out.o.alloc _) ⟨V.heap.size, 0, none⟩ 1 1 [.int .i64 (tm : Int), .int .i64 3, .int .i64 (p : Int), .int .i64 0, .int .i64 (un : Int), .int .i64 0, .int .i64 0] rfl rfl (World.news_of_block (heap_alloc_new V _)) (by simp [Value.oneCell']) (by unfold maxLen; omega) (by omega) (by have := HEV.out.g.size; simp; omega) ?_; intro v' w12 hown hgr _; obtain ⟨A', c', rfl⟩ := own_form hown; have Q12 := Lib.hid (HEV.out.q12 hgr); have HCLO := Lib.hid (ERel.close hlj HOK.out HLT.out hlt hm15 HAS.out HCL.out HTM.out HFIT.out HPN.out rfl HEV.out.q HEV.out.qw HEV.out.o HEV.out.c HEV.out.z HEV.out.z1 HEV.out.g HEV.out.t hT hgr hown); clear hown hgr; obtain ⟨r0, r1⟩ := geCells Q12.out; have r2 : w12.frozen? ⟨Q, 1, none⟩ = false := frozen_of_row _ _ _ _ _ Q12.out)
          rw [setCell_eq_setRow w12 Q 1 _ _ _ _ Q12.out]
          exact ⟨⟨j + 1, by omega, by go_num, HCLO.out⟩, by simp [intOf]; omega⟩
        · obtain ⟨V, hV⟩ : ∃ V, W = V := ⟨_, rfl⟩
          subst hV
          have HEV := HEV0
          obtain ⟨n0, n1, n2, n3, n4, n5, n6⟩ := accCells (x := ⟨tm, 4, p, 0, 0, 0, 0⟩) HEV.out.xb
          simp only at n0 n1 n2 n3 n4 n5 n6
          obtain ⟨g0, g1⟩ := geCells HEV.out.q
          obtain ⟨h0', h1'⟩ := gdCells HEV.out.z
          have HFIT := Lib.hid (show fitP n ⟨tm, 4, p, 0, 0, 0, 0⟩ by simp [fitP]; (first | done | omega))
          go_wp2_with (at_builtin; refine wpList_append_own _ rfl (.tmp 69) (.tmp 71) 26 rfl w.heap.size 76 j0 (.agg #[.int .i64 0, .int .i64 0, .int .i64 0, .int .i64 0, .int .i64 0, .int .i64 0, .int .i64 0]) 7 56 Tryz.underlying26 HJ.out HJ0.out HJ1.out HJ2.out rfl (by decide) _ E.length (av E) rfl (HEV.out.o.alloc _) ⟨W.heap.size, 0, none⟩ 1 1 [.int .i64 (tm : Int), .int .i64 4, .int .i64 (p : Int), .int .i64 0, .int .i64 0, .int .i64 0, .int .i64 0] rfl rfl (World.news_of_block (heap_alloc_new W _)) (by simp [Value.oneCell']) (by unfold maxLen; omega) (by omega) (by have := HEV.out.g.size; simp; omega) ?_; intro v' w12 hown hgr _; obtain ⟨A', c', rfl⟩ := own_form hown; have Q12 := Lib.hid (HEV.out.q12 hgr); have HCLO := Lib.hid (ERel.close hlj HOK.out HLT.out hlt hm15 HAS.out HCL.out HTM.out HFIT.out HPN.out rfl HEV.out.q HEV.out.qw HEV.out.o HEV.out.c HEV.out.z HEV.out.z1 HEV.out.g HEV.out.t hT hgr hown); clear hown hgr; obtain ⟨r0, r1⟩ := geCells Q12.out; have r2 : w12.frozen? ⟨Q, 1, none⟩ = false := frozen_of_row _ _ _ _ _ Q12.out)
          rw [setCell_eq_setRow w12 Q 1 _ _ _ _ Q12.out]
          exact ⟨⟨j + 1, by omega, by go_num, HCLO.out⟩, by simp [intOf]; omega⟩
        · obtain ⟨n0, n1, n2, n3, n4, n5, n6⟩ := accCells (x := ⟨tm, 5, p, 0, 0, 0, 0⟩) HEV0.out.xb
          simp only at n0 n1 n2 n3 n4 n5 n6
          obtain ⟨g0, g1⟩ := geCells HEV0.out.q
          obtain ⟨h0', h1'⟩ := gdCells HEV0.out.z
          have HNX2 := Lib.hid (next_any T (3) W HEV0.out.t (by omega) (by omega))
          go_wp2_with fail
          refine HNX2.out.mono ?_
          rintro e w4 ⟨r, r0, r1, rfl, hg4, ht4⟩
          obtain ⟨rn, rfl⟩ : ∃ rn : Nat, r = rn := ⟨r.toNat, by omega⟩
          have HE4 := Lib.hid (HEV0.out.next hg4 ht4)
          clear hg4 ht4
          clear n0 n1 n2 n3 n4 n5 n6 g0 g1 h0' h1'
          obtain ⟨V, hV⟩ : ∃ V, w4.setCell ⟨G, 5, none⟩ (.int .i64 (rn : Int)) = V := ⟨_, rfl⟩
          have HEV := Lib.hid (show EvW T Q G n w d v cl (some ⟨b, off, none⟩) cc m E Ae ce ⟨tm, 5, p, 0, 0, rn, 0⟩ V from hV ▸ HE4.out.set 5 (.int .i64 (rn : Int)) ⟨tm, 5, p, 0, 0, rn, 0⟩ rfl)
          have q4 : w4.frozen? ⟨G, 5, none⟩ = false := frozen_of_row _ _ _ _ _ HE4.out.xb
          have q5 := (accCells HE4.out.xb)
          unfold AcAt at q5
          obtain ⟨c0, c1, c2, c3, c4, c5, c6⟩ := q5
          simp only at c0 c1 c2 c3 c4 c5 c6
          obtain ⟨n0, n1, n2, n3, n4, n5, n6⟩ := accCells (x := ⟨tm, 5, p, 0, 0, rn, 0⟩) HEV.out.xb
          simp only at n0 n1 n2 n3 n4 n5 n6
          obtain ⟨g0, g1⟩ := geCells HEV.out.q
          obtain ⟨h0', h1'⟩ := gdCells HEV.out.z
          have HFIT := Lib.hid (show fitP n ⟨tm, 5, p, 0, 0, rn, 0⟩ by simp [fitP]; (first | done | omega))
          go_wp2_with (at_builtin; refine wpList_append_own _ rfl (.tmp 69) (.tmp 71) 26 rfl w.heap.size 76 j0 (.agg #[.int .i64 0, .int .i64 0, .int .i64 0, .int .i64 0, .int .i64 0, .int .i64 0, .int .i64 0]) 7 56 Tryz.underlying26 HJ.out HJ0.out HJ1.out HJ2.out rfl (by decide) _ E.length (av E) rfl (HEV.out.o.alloc _) ⟨V.heap.size, 0, none⟩ 1 1 [.int .i64 (tm : Int), .int .i64 5, .int .i64 (p : Int), .int .i64 0, .int .i64 0, .int .i64 (rn : Int), .int .i64 0] rfl rfl (World.news_of_block (heap_alloc_new V _)) (by simp [Value.oneCell']) (by unfold maxLen; omega) (by omega) (by have := HEV.out.g.size; simp; omega) ?_; intro v' w12 hown hgr _; obtain ⟨A', c', rfl⟩ := own_form hown; have Q12 := Lib.hid (HEV.out.q12 hgr); have HCLO := Lib.hid (ERel.close hlj HOK.out HLT.out hlt hm15 HAS.out HCL.out HTM.out HFIT.out HPN.out rfl HEV.out.q HEV.out.qw HEV.out.o HEV.out.c HEV.out.z HEV.out.z1 HEV.out.g HEV.out.t hT hgr hown); clear hown hgr; obtain ⟨r0, r1⟩ := geCells Q12.out; have r2 : w12.frozen? ⟨Q, 1, none⟩ = false := frozen_of_row _ _ _ _ _ Q12.out)
          rw [setCell_eq_setRow w12 Q 1 _ _ _ _ Q12.out]
          exact ⟨⟨j + 1, by omega, by go_num, HCLO.out⟩, by simp [intOf]; omega⟩
        · obtain ⟨n0, n1, n2, n3, n4, n5, n6⟩ := accCells (x := ⟨tm, 6, p, 0, 0, 0, 0⟩) HEV0.out.xb
          simp only at n0 n1 n2 n3 n4 n5 n6
          obtain ⟨g0, g1⟩ := geCells HEV0.out.q
          obtain ⟨h0', h1'⟩ := gdCells HEV0.out.z
          have HNX2 := Lib.hid (next_any T (3) W HEV0.out.t (by omega) (by omega))
          go_wp2_with fail
          refine HNX2.out.mono ?_
          rintro e w4 ⟨r, r0, r1, rfl, hg4, ht4⟩
          obtain ⟨rn, rfl⟩ : ∃ rn : Nat, r = rn := ⟨r.toNat, by omega⟩
          have HE4 := Lib.hid (HEV0.out.next hg4 ht4)
          clear hg4 ht4
          clear n0 n1 n2 n3 n4 n5 n6 g0 g1 h0' h1'
          obtain ⟨V, hV⟩ : ∃ V, w4.setCell ⟨G, 5, none⟩ (.int .i64 (rn : Int)) = V := ⟨_, rfl⟩
          have HEV := Lib.hid (show EvW T Q G n w d v cl (some ⟨b, off, none⟩) cc m E Ae ce ⟨tm, 6, p, 0, 0, rn, 0⟩ V from hV ▸ HE4.out.set 5 (.int .i64 (rn : Int)) ⟨tm, 6, p, 0, 0, rn, 0⟩ rfl)
          have q4 : w4.frozen? ⟨G, 5, none⟩ = false := frozen_of_row _ _ _ _ _ HE4.out.xb
          have q5 := (accCells HE4.out.xb)
          unfold AcAt at q5
          obtain ⟨c0, c1, c2, c3, c4, c5, c6⟩ := q5
          simp only at c0 c1 c2 c3 c4 c5 c6
          obtain ⟨n0, n1, n2, n3, n4, n5, n6⟩ := accCells (x := ⟨tm, 6, p, 0, 0, rn, 0⟩) HEV.out.xb
          simp only at n0 n1 n2 n3 n4 n5 n6
          obtain ⟨g0, g1⟩ := geCells HEV.out.q
          obtain ⟨h0', h1'⟩ := gdCells HEV.out.z
          have HFIT := Lib.hid (show fitP n ⟨tm, 6, p, 0, 0, rn, 0⟩ by simp [fitP]; (first | done | omega))
          go_wp2_with (at_builtin; refine wpList_append_own _ rfl (.tmp 69) (.tmp 71) 26 rfl w.heap.size 76 j0 (.agg #[.int .i64 0, .int .i64 0, .int .i64 0, .int .i64 0, .int .i64 0, .int .i64 0, .int .i64 0]) 7 56 Tryz.underlying26 HJ.out HJ0.out HJ1.out HJ2.out rfl (by decide) _ E.length (av E) rfl (HEV.out.o.alloc _) ⟨V.heap.size, 0, none⟩ 1 1 [.int .i64 (tm : Int), .int .i64 6, .int .i64 (p : Int), .int .i64 0, .int .i64 0, .int .i64 (rn : Int), .int .i64 0] rfl rfl (World.news_of_block (heap_alloc_new V _)) (by simp [Value.oneCell']) (by unfold maxLen; omega) (by omega) (by have := HEV.out.g.size; simp; omega) ?_; intro v' w12 hown hgr _; obtain ⟨A', c', rfl⟩ := own_form hown; have Q12 := Lib.hid (HEV.out.q12 hgr); have HCLO := Lib.hid (ERel.close hlj HOK.out HLT.out hlt hm15 HAS.out HCL.out HTM.out HFIT.out HPN.out rfl HEV.out.q HEV.out.qw HEV.out.o HEV.out.c HEV.out.z HEV.out.z1 HEV.out.g HEV.out.t hT hgr hown); clear hown hgr; obtain ⟨r0, r1⟩ := geCells Q12.out; have r2 : w12.frozen? ⟨Q, 1, none⟩ = false := frozen_of_row _ _ _ _ _ Q12.out)
          rw [setCell_eq_setRow w12 Q 1 _ _ _ _ Q12.out]
          exact ⟨⟨j + 1, by omega, by go_num, HCLO.out⟩, by simp [intOf]; omega⟩
        · obtain ⟨n0, n1, n2, n3, n4, n5, n6⟩ := accCells (x := ⟨tm, 7, p, 0, 0, 0, 0⟩) HEV0.out.xb
          simp only at n0 n1 n2 n3 n4 n5 n6
          obtain ⟨g0, g1⟩ := geCells HEV0.out.q
          obtain ⟨h0', h1'⟩ := gdCells HEV0.out.z
          have HNX2 := Lib.hid (next_any T (n) W HEV0.out.t (by omega) (by omega))
          go_wp2_with fail
          refine HNX2.out.mono ?_
          rintro e w4 ⟨r, r0, r1, rfl, hg4, ht4⟩
          obtain ⟨rn, rfl⟩ : ∃ rn : Nat, r = rn := ⟨r.toNat, by omega⟩
          have HE4 := Lib.hid (HEV0.out.next hg4 ht4)
          clear hg4 ht4
          clear n0 n1 n2 n3 n4 n5 n6 g0 g1 h0' h1'
          obtain ⟨V, hV⟩ : ∃ V, w4.setCell ⟨G, 6, none⟩ (.int .i64 (rn : Int)) = V := ⟨_, rfl⟩
          have HEV := Lib.hid (show EvW T Q G n w d v cl (some ⟨b, off, none⟩) cc m E Ae ce ⟨tm, 7, p, 0, 0, 0, rn⟩ V from hV ▸ HE4.out.set 6 (.int .i64 (rn : Int)) ⟨tm, 7, p, 0, 0, 0, rn⟩ rfl)
          have q4 : w4.frozen? ⟨G, 6, none⟩ = false := frozen_of_row _ _ _ _ _ HE4.out.xb
          have q5 := (accCells HE4.out.xb)
          unfold AcAt at q5
          obtain ⟨c0, c1, c2, c3, c4, c5, c6⟩ := q5
          simp only at c0 c1 c2 c3 c4 c5 c6
          obtain ⟨n0, n1, n2, n3, n4, n5, n6⟩ := accCells (x := ⟨tm, 7, p, 0, 0, 0, rn⟩) HEV.out.xb
          simp only at n0 n1 n2 n3 n4 n5 n6
          obtain ⟨g0, g1⟩ := geCells HEV.out.q
          obtain ⟨h0', h1'⟩ := gdCells HEV.out.z
          by_cases hsame : rn = p
          · have e1 : ((rn : Int) == (p : Int)) = true := by rw [hsame]; simp
            clear hsame
            go_wp2_with fail
            exact ⟨⟨j + 1, by omega, by go_num, ERel.same hlj HOK.out HLT.out HEV.out.q HEV.out.o HEV.out.c HEV.out.z HEV.out.z1 HEV.out.g HEV.out.t⟩, by simp [intOf]; omega⟩
          · have e1 : ((rn : Int) == (p : Int)) = false := beq_eq_false_iff_ne.2 (by omega)
            have HFIT := Lib.hid (show fitP n ⟨tm, 7, p, 0, 0, 0, rn⟩ by simp [fitP]; (first | done | omega))
            go_wp2_with (at_builtin; refine wpList_append_own _ rfl (.tmp 69) (.tmp 71) 26 rfl w.heap.size 76 j0 (.agg #[.int .i64 0, .int .i64 0, .int .i64 0, .int .i64 0, .int .i64 0, .int .i64 0, .int .i64 0]) 7 56 Tryz.underlying26 HJ.out HJ0.out HJ1.out HJ2.out rfl (by decide) _ E.length (av E) rfl (HEV.out.o.alloc _) ⟨V.heap.size, 0, none⟩ 1 1 [.int .i64 (tm : Int), .int .i64 7, .int .i64 (p : Int), .int .i64 0, .int .i64 0, .int .i64 0, .int .i64 (rn : Int)] rfl rfl (World.news_of_block (heap_alloc_new V _)) (by simp [Value.oneCell']) (by unfold maxLen; omega) (by omega) (by have := HEV.out.g.size; simp; omega) ?_; intro v' w12 hown hgr _; obtain ⟨A', c', rfl⟩ := own_form hown; have Q12 := Lib.hid (HEV.out.q12 hgr); have HCLO := Lib.hid (ERel.close hlj HOK.out HLT.out hlt hm15 HAS.out HCL.out HTM.out HFIT.out HPN.out rfl HEV.out.q HEV.out.qw HEV.out.o HEV.out.c HEV.out.z HEV.out.z1 HEV.out.g HEV.out.t hT hgr hown); clear hown hgr; obtain ⟨r0, r1⟩ := geCells Q12.out; have r2 : w12.frozen? ⟨Q, 1, none⟩ = false := frozen_of_row _ _ _ _ _ Q12.out)
            rw [setCell_eq_setRow w12 Q 1 _ _ _ _ Q12.out]
            exact ⟨⟨j + 1, by omega, by go_num, HCLO.out⟩, by simp [intOf]; omega⟩
    · obtain rfl : m = j := by omega
      clear hown hoc hz hz1 hq hgb htp
      have HMK := Lib.hid (⟨HOK.out, hn1, by show E.length ≤ 15; omega, fun i hi => (HLT.out i hi).1⟩ : MkE ⟨n, E⟩)
      obtain ⟨z0, z1, z2, z3⟩ := zeCells HZ1.out
      have HR := Lib.hid (setRow_heap wr (w.heap.size + 1) _ (ge ⟨n, E⟩ ⟨Ae, ce⟩) _ _ HZ1.out)
      have HEL := Lib.hid (row_of_own (kept_ne HO.out (gb_setRow wr (w.heap.size + 1) (ge ⟨n, E⟩ ⟨Ae, ce⟩)) (fun g e => by cases e; exact own_not HO.out HZ1.out (by decide))))
      go_wp2_with fail
      rw [set2row (g := w.heap.size + 1) HZ1.out rfl]
      exact bodyPost_ret (v := .agg (ge ⟨n, E⟩ ⟨Ae, ce⟩)) (results_cell_row rfl _ _ (w.heap.size + 1) 28 (ge ⟨n, E⟩ ⟨Ae, ce⟩) (0, 0) _ rfl HR.out Tryz.underlying28 rfl (infoEs _ _)) rfl ⟨_, _, rfl, HMK.out, HEL.out, gb_far HGB.out (by omega) _, tape_set HTP.out (by omega) _, own_cap HO.out⟩

end Go.Proofs.YtgknfkmojhganaaGreat.Di
