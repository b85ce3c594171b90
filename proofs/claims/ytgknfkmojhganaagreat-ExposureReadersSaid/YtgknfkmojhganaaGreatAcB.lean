import Derived.Test.YtgknfkmojhganaaGreatAcA
namespace Go.Proofs.YtgknfkmojhganaaGreat.Di
open Go.RowKit
open Go.Proofs.YtgknfkmojhganaaGreat.Tp
set_option linter.unusedVariables false

theorem num_yes {n s : Int} (h1 : 0 ≤ n) (h2 : n < s) (w : World) : Calls Tryz.prog 85 #[.int .i64 n, .int .i64 s] w fun e w' => e = .returned (.bool true) ∧ w = w' := by
  have h := num_any n s w
  rwa [decide_eq_true h1, decide_eq_true h2] at h
theorem num_no {n s : Int} (hn : ¬ (0 ≤ n ∧ n < s)) (w : World) : Calls Tryz.prog 85 #[.int .i64 n, .int .i64 s] w fun e w' => e = .returned (.bool false) ∧ w = w' := by
  have h := num_any n s w
  have hf : (decide ((0 : Int) ≤ n) && decide (n < s)) = false := by rw [Bool.eq_false_iff]; simp only [ne_eq, Bool.and_eq_true, decide_eq_true_eq]; exact hn
  rwa [hf] at h

set_option maxRecDepth 100000 in
set_option maxHeartbeats 2000000 in
theorem acheck_any (a : Es) (v : Ve) (w : World) (h : EL w 0 a v) :
    Calls Tryz.prog 45 #[.agg (ge a v)] w fun e w' => e = .returned (.int .i64 (ck a)) ∧ Below w.heap.size w w' := by
  obtain ⟨A, vc⟩ := v
  have HB0 := Lib.hid (box_below w (.cells (ge a ⟨A, vc⟩) 28))
  have HR0 := Lib.hid (heap_alloc_new w (.cells (ge a ⟨A, vc⟩) 28))
  have HD := Lib.hid h
  obtain ⟨c0, c1⟩ := geCells HR0.out
  have HF := Lib.hid (show (#[.int .i64 a.n, .slice A a.e.length vc] : Array Value) = ge a ⟨A, vc⟩ from rfl)
  clear h
  by_cases hn1 : a.n < 1
  · have hv := Lib.hid (ck_no (a := a) (fun h => by have := h.n1; omega))
    have d1 : decide (a.n < (1 : Int)) = true := decide_eq_true hn1
    clear hn1
    go_enter Tryz.func45, Tryz.ntmps45
    go_wp2_with fail
    go_ret
    exact ⟨by rw [hv.out]; first | rfl | simp, HB0.out⟩
  have d1 : decide (a.n < (1 : Int)) = false := decide_eq_false hn1
  by_cases hn16 : 16 < a.n
  · have hv := Lib.hid (ck_no (a := a) (fun h => by have := h.n16; omega))
    have d2 : decide ((16 : Int) < a.n) = true := decide_eq_true hn16
    clear hn1 hn16
    go_enter Tryz.func45, Tryz.ntmps45
    go_wp2_with fail
    go_ret
    exact ⟨by rw [hv.out]; first | rfl | simp, HB0.out⟩
  have d2 : decide ((16 : Int) < a.n) = false := decide_eq_false hn16
  by_cases hl : 120 < a.e.length
  · have hv := Lib.hid (ck_no (a := a) (fun h => by have := h.m; omega))
    have d3 : decide ((120 : Int) < (a.e.length : Int)) = true := decide_eq_true (by omega)
    have d3' : 120 < a.e.length := hl
    clear hn1 hn16 hl
    go_enter Tryz.func45, Tryz.ntmps45
    go_wp2_with fail
    go_ret
    exact ⟨by rw [hv.out]; first | rfl | simp, HB0.out⟩
  have d3 : decide ((120 : Int) < (a.e.length : Int)) = false := decide_eq_false (by omega)
  have HN := Lib.hid (show 1 ≤ a.n ∧ a.n ≤ 16 by omega)
  have hlen : a.e.length ≤ 120 := by omega
  clear hn1 hn16 hl
  go_enter Tryz.func45, Tryz.ntmps45
  go_wp2_with fail
  clear c0 c1
  go_loopw [3, 23] (fun ll ii wr => ∃ k : Nat, k ≤ a.e.length ∧ ii = .int .i64 (k : Int) ∧ ll = .int .i64 (befA a.e k) ∧ Pok a.n a.e k ∧ Below w.heap.size w wr ∧ w.heap.size + 1 ≤ wr.heap.size ∧ wr.heap[w.heap.size]? = some (.cells (ge a ⟨A, vc⟩) 28 (0, 0))) (fun _ ii _ => a.e.length - (intOf ii).toNat)
  case atStart => exact ⟨0, by omega, rfl, rfl, Pok.zero _ _, HB0.out, by simp, HR0.out⟩
  case round =>
    obtain ⟨k, hk, rfl, rfl, hpok, hbl, hsz, hmk⟩ := hrel
    have HPOK := Lib.hid hpok
    have HBL := Lib.hid hbl
    have MK := Lib.hid hmk
    obtain ⟨c0, c1⟩ := geCells hmk
    clear hpok hbl hmk
    by_cases hlt : k < a.e.length
    · obtain ⟨b, off, hA, -, hbk, hac⟩ := (Row.below HD.out HBL.out).ac hlt
      have HNO := Lib.hid (fun h => ck_no (Eok.not (a := a) hlt h))
      have HPS := Lib.hid (Pok.succ (n := a.n) (l := a.e) (k := k) HPOK.out)
      have BS := Lib.hid (befA_succ a.e k)
      obtain ⟨y0, y1, y2, y3, y4, y5, y6⟩ := hac
      have HFI := fun x w => fits_any a ⟨A, vc⟩ x w
      simp only [ge, acc] at HFI
      have hA : A = some ⟨b, off, none⟩ := hA
      subst hA
      have HBB := Lib.hid (befA_succ a.e k)
      generalize ag a.e k = x at *
      generalize befA a.e k = t0 at *
      obtain ⟨xt, xk, xp, xr, xu, xc, xf⟩ := x
      simp only at y0 y1 y2 y3 y4 y5 y6
      have hbx := box_below wr (.cells #[.int .i64 xt, .int .i64 xk, .int .i64 xp, .int .i64 xr, .int .i64 xu, .int .i64 xc, .int .i64 xf] 76)
      have HBX := Lib.hid (HBL.out.trans (hbx.mono HBL.out.size))
      have XN := Lib.hid (heap_alloc_new wr (.cells #[.int .i64 xt, .int .i64 xk, .int .i64 xp, .int .i64 xr, .int .i64 xu, .int .i64 xc, .int .i64 xf] 76))
      have MX := Lib.hid ((hbx.block _ (row_lt MK.out)).trans MK.out)
      obtain ⟨n0, n1, n2, n3, n4, n5, n6⟩ := accCells (x := ⟨xt, xk, xp, xr, xu, xc, xf⟩) XN.out
      obtain ⟨m0, m1⟩ := geCells MX.out
      simp only at n0 n1 n2 n3 n4 n5 n6
      have hfx := HFI ⟨xt, xk, xp, xr, xu, xc, xf⟩
      simp only at hfx
      have HFX := Lib.hid hfx
      have j0 : (0 : Int) ≤ (k : Int) := by omega
      have j1 : (k : Int) < (a.e.length : Int) := by omega
      clear HFI hbx hfx
      by_cases t1 : xt < t0
      · have e1 : decide (xt < t0) = true := decide_eq_true t1
        have HV := Lib.hid (HNO.out (fun h => by simp only at h; omega))
        clear t1
        go_wp2_with fail
        go_ret
        exact ⟨by rw [HV.out]; first | rfl | simp, HBX.out⟩
      have e1 : decide (xt < t0) = false := decide_eq_false t1
      by_cases t2 : 1099511627776 < xt
      · have e2 : decide ((1099511627776 : Int) < xt) = true := decide_eq_true t2
        have HV := Lib.hid (HNO.out (fun h => by simp only at h; omega))
        clear t1 t2
        go_wp2_with fail
        go_ret
        exact ⟨by rw [HV.out]; first | rfl | simp, HBX.out⟩
      have e2 : decide ((1099511627776 : Int) < xt) = false := decide_eq_false t2
      by_cases t3 : 0 ≤ xp ∧ xp < a.n
      · have HNU := Lib.hid (fun w => num_yes t3.1 t3.2 w)
        by_cases t4 : fitP a.n ⟨xt, xk, xp, xr, xu, xc, xf⟩
        · have HFB := Lib.hid (fitB_yes t4)
          rw [HFB.out] at HFX
          have HP1 := Lib.hid (HPS.out (by simp only; omega) (by simp only; omega) t3.1 t3.2 t4)
          clear t1 t2 t3 t4
          go_wp2_with (first
            | (go_at_call 85; (with_reducible refine (HNU.out _).mono ?_); rintro e wq ⟨rfl, rfl⟩)
            | (go_at_call 86; (with_reducible refine (HFX.out _).mono ?_); rintro e w3 ⟨rfl, hb3⟩; have M3 := Lib.hid ((hb3.block _ (row_lt MX.out)).trans MX.out); have B3 := Lib.hid (HBX.out.trans (hb3.mono HBX.out.size)); have z3 : w.heap.size + 1 ≤ w3.heap.size := (by have := hb3.size; simp at this; omega); have X3 := Lib.hid ((hb3.block _ (row_lt XN.out)).trans XN.out); obtain ⟨q0, q1, q2, q3, q4, q5, q6⟩ := accCells (x := ⟨xt, xk, xp, xr, xu, xc, xf⟩) X3.out; simp only at q0; clear q1 q2 q3 q4 q5 q6 hb3))
          exact ⟨⟨k + 1, by omega, by go_num, by rw [BS.out], HP1.out, B3.out, z3, M3.out⟩, by simp [intOf]; omega⟩
        · have HFB := Lib.hid (fitB_no t4)
          rw [HFB.out] at HFX
          have HV := Lib.hid (HNO.out (fun h => t4 h.2.2.2.2))
          clear t1 t2 t3 t4
          go_wp2_with (first
            | (go_at_call 85; (with_reducible refine (HNU.out _).mono ?_); rintro e wq ⟨rfl, rfl⟩)
            | (go_at_call 86; (with_reducible refine (HFX.out _).mono ?_); rintro e w3 ⟨rfl, hb3⟩; have B3 := Lib.hid (HBX.out.trans (hb3.mono HBX.out.size)); clear hb3))
          go_ret
          exact ⟨by rw [HV.out]; first | rfl | simp, B3.out⟩
      · have HNU := Lib.hid (fun w => num_no t3 w)
        have HV := Lib.hid (HNO.out (fun h => t3 ⟨h.2.2.1, h.2.2.2.1⟩))
        clear t1 t2 t3
        go_wp2_with (go_at_call 85; (with_reducible refine (HNU.out _).mono ?_); rintro e wq ⟨rfl, rfl⟩)
        go_ret
        exact ⟨by rw [HV.out]; first | rfl | simp, HBX.out⟩
    · obtain rfl : k = a.e.length := by omega
      have HV := Lib.hid (ck_ok (HPOK.out.all HN.out.1 HN.out.2 hlen))
      go_wp2_with fail
      go_ret
      exact ⟨by show _ = Ending.returned (.int .i64 (ck ⟨a.n, a.e⟩)); rw [HV.out]; first | rfl | simp, HBL.out⟩

end Go.Proofs.YtgknfkmojhganaaGreat.Di
