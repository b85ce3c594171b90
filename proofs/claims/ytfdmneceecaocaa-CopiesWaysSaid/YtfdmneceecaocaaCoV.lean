import Derived.Test.YtfdmneceecaocaaCoS
namespace Go.Proofs.Ytfdmneceecaocaa.Di
open Go.RowKit
open Go.Proofs.Ytfdmneceecaocaa.Tp
set_option linter.unusedVariables false

theorem below_dn2 {B : Nat} {w w2 : World} (h : Below B w w2) (n : Nat) : Below B w (w2.drewN n) := ⟨h.os, h.tape, h.output, h.size, h.block⟩
set_option maxRecDepth 100000 in
set_option maxHeartbeats 2000000 in
theorem removed_no (a : Es) (v : Ve) (c p t : Int) (bh fr : Nat) (w : World) (h : EL w 0 a v) (hm : a.e.length ≤ 120) (hb : bh < a.e.length) (hf : fr ≤ a.e.length)
    (hno : ∀ j, bh < j → j < fr → (ag a.e j).t ≤ t → ¬ ((ag a.e j).k = 6 ∧ (ag a.e j).c = c ∧ (ag a.e j).p = p)) :
    Calls Try.prog 65 #[.agg (ge a v), .int .i64 c, .int .i64 p, .int .i64 (bh : Int), .int .i64 (fr : Int), .int .i64 t] w fun e w' => e = .returned (.bool false) ∧ Below w.heap.size w w' := by
  obtain ⟨A, vc⟩ := v
  have HB0 := Lib.hid (box_below w (.cells (ge a ⟨A, vc⟩) 25))
  have HR0 := Lib.hid (heap_alloc_new w (.cells (ge a ⟨A, vc⟩) 25))
  have HE := Lib.hid (Row.below h HB0.out)
  have HNO := Lib.hid hno
  clear h hno
  obtain ⟨f, hbf⟩ : ∃ f, bh + 1 = f := ⟨_, rfl⟩
  have hsum : (bh : Int) + 1 = (f : Int) := by omega
  have hf1 : f ≤ 120 := by omega
  have HFB := Lib.hid hbf
  clear hbf
  have lQ := row_lt HR0.out
  go_enter Try.func65, Try.ntmps65
  go_wp2_with fail
  generalize w.alloc (.cells (ge a ⟨A, vc⟩) 25) = W1 at *
  go_loopw [13] (fun ii wr => ∃ k : Nat, f ≤ k ∧ (k ≤ fr ∨ k = f) ∧ ii = .int .i64 (k : Int) ∧ Below W1.heap.size W1 wr) (fun ii _ => fr - (intOf ii).toNat)
  case atStart => exact ⟨f, Nat.le_refl _, .inr rfl, rfl, Below.refl _ _⟩
  case round =>
    obtain ⟨k, hk1, hk2, rfl, hbl⟩ := hrel
    have HBL := Lib.hid hbl
    have MQ := Lib.hid ((hbl.block _ lQ).trans HR0.out)
    obtain ⟨c0, c1⟩ := geCells MQ.out
    by_cases hlt : k < fr
    · have d0 : decide ((k : Int) < (fr : Int)) = true := decide_eq_true (by omega)
      obtain ⟨b, off, hA, -, hbk, hac⟩ := Row.ac (HE.out.below hbl) (show k < a.e.length by omega)
      have hA : A = some ⟨b, off, none⟩ := hA
      subst hA
      obtain ⟨y0, y1, y2, y3, y4, y5, y6⟩ := hac
      have hn := HNO.out k (by have := HFB.out; omega) hlt
      generalize ag a.e k = x at *
      obtain ⟨xt, xk, xp, xr, xu, xc, xf⟩ := x
      simp only at y0 y1 y2 y3 y4 y5 y6 hn
      have hbx := box_below wr (.cells #[.int .i64 xt, .int .i64 xk, .int .i64 xp, .int .i64 xr, .int .i64 xu, .int .i64 xc, .int .i64 xf] 52)
      have BX := Lib.hid (hbl.trans (hbx.mono hbl.size))
      have XN := Lib.hid (heap_alloc_new wr (.cells #[.int .i64 xt, .int .i64 xk, .int .i64 xp, .int .i64 xr, .int .i64 xu, .int .i64 xc, .int .i64 xf] 52))
      obtain ⟨n0, n1, n2, n3, n4, n5, n6⟩ := accCells (x := ⟨xt, xk, xp, xr, xu, xc, xf⟩) XN.out
      simp only at n0 n1 n2 n3 n4 n5 n6
      have i0 : (0 : Int) ≤ (k : Int) := by omega
      have i1 : (k : Int) < (a.e.length : Int) := by omega
      have hk120 : k ≤ 120 := by omega
      clear hbx hbl
      by_cases h6 : xk = 6
      · have e1 : (xk == 6) = true := by rw [h6]; rfl
        by_cases h7 : xc = c
        · have e2 : (xc == c) = true := by rw [h7]; simp
          by_cases h8 : xp = p
          · have e3 : (xp == p) = true := by rw [h8]; simp
            have e4 : decide (xt ≤ t) = false := decide_eq_false (fun h => hn h ⟨h6, h7, h8⟩)
            clear hn h6 h7 h8
            go_wp2_with fail
            exact ⟨⟨k + 1, by omega, by omega, by go_num, BX.out⟩, by simp [intOf]; omega⟩
          · have e3 : (xp == p) = false := beq_eq_false_iff_ne.2 h8
            clear hn h6 h7 h8
            go_wp2_with fail
            exact ⟨⟨k + 1, by omega, by omega, by go_num, BX.out⟩, by simp [intOf]; omega⟩
        · have e2 : (xc == c) = false := beq_eq_false_iff_ne.2 h7
          clear hn h6 h7
          go_wp2_with fail
          exact ⟨⟨k + 1, by omega, by omega, by go_num, BX.out⟩, by simp [intOf]; omega⟩
      · have e1 : (xk == 6) = false := beq_eq_false_iff_ne.2 h6
        clear hn h6
        go_wp2_with fail
        exact ⟨⟨k + 1, by omega, by omega, by go_num, BX.out⟩, by simp [intOf]; omega⟩
    · have d0 : decide ((k : Int) < (fr : Int)) = false := decide_eq_false (by omega)
      have HBF := Lib.hid (HB0.out.trans (hbl.mono HB0.out.size))
      clear hbl
      go_wp2_with fail
      go_ret
      exact ⟨by first | rfl | simp, HBF.out⟩

set_option maxRecDepth 100000 in
set_option maxHeartbeats 8000000 in
theorem proves_yes (a : Es) (v : Ve) (c t : Int) (P n cc : Nat) (L : List Nat) (Aw : Option Addr) (w : World) (h : EL w 0 a v) (hok : Eok a) (hn : a.n = (n : Int)) (hP : P < n) (hc : 0 ≤ c ∧ c < 64)
    (hr : Row w 0 1 Aw L.length (iv L)) (hl0 : 0 < L.length) (hl1 : L.length ≤ 200) (hw : IsW a.e c t a.e.length (P : Int) L) :
    Calls Try.prog 44 #[.agg (ge a v), .int .i64 c, .int .i64 (P : Int), .int .i64 t, .slice Aw L.length cc] w fun e w' => e = .returned (.bool true) ∧ Below w.heap.size w w' := by
  obtain ⟨A, vc⟩ := v
  have hm := hok.m
  have HB0 := Lib.hid (box_below w (.cells (ge a ⟨A, vc⟩) 25))
  have HR0 := Lib.hid (heap_alloc_new w (.cells (ge a ⟨A, vc⟩) 25))
  have HE := Lib.hid (Row.below h HB0.out)
  have HRW := Lib.hid (Row.below hr HB0.out)
  obtain ⟨c0, c1⟩ := geCells HR0.out
  have HCK := Lib.hid (exc_yes a ⟨A, vc⟩ (P : Int) _ (Row.below h HB0.out) ⟨hok, by omega, by omega⟩)
  have HCY := Lib.hid (fun w' => content_yes hc w')
  have HF := Lib.hid (show (#[.int .i64 a.n, .slice A a.e.length vc] : Array Value) = ge a ⟨A, vc⟩ from rfl)
  have HW := Lib.hid hw
  clear h hr hw hn hok
  obtain ⟨m, hml⟩ : ∃ m, L.length = m := ⟨_, rfl⟩
  rw [hml] at hl0 hl1
  have HML := Lib.hid hml
  rw [hml] at HRW ⊢
  have e0 : ((m : Int) == 0) = false := beq_eq_false_iff_ne.2 (by omega)
  clear hml
  have lQ := row_lt HR0.out
  go_enter Try.func44, Try.ntmps44
  go_wp2_with (first
    | (go_at_call 58; rw [HF.out]; refine HCK.out.mono ?_; rintro e w1 ⟨rfl, hb1⟩; have HB1 := Lib.hid (HB0.out.trans (hb1.mono HB0.out.size)); have M1 := Lib.hid ((hb1.block _ lQ).trans HR0.out); have E1 := Lib.hid (HE.out.below hb1); have R1 := Lib.hid (HRW.out.below hb1); clear hb1 c0 c1; obtain ⟨c0, c1⟩ := geCells M1.out)
    | (go_at_call 62; (with_reducible refine (HCY.out _).mono ?_); rintro e w1 ⟨rfl, rfl⟩))
  have l1 := row_lt M1.out
  clear c0 c1 HE HRW HR0 HCK lQ
  go_loopw [31] (fun ii wr => ∃ k : Nat, k ≤ m ∧ ii = .int .i64 (k : Int) ∧ Below w1.heap.size w1 wr) (fun ii _ => m - (intOf ii).toNat)
  case atStart => exact ⟨0, by omega, rfl, Below.refl _ _⟩
  case round =>
    obtain ⟨k, hk, rfl, hbl⟩ := hrel
    have HBL := Lib.hid hbl
    have MQ := Lib.hid ((hbl.block _ l1).trans M1.out)
    have HRV := Lib.hid (fun q (hq : q < m) => (R1.out.below hbl).int hq)
    have HEV := Lib.hid (fun q (hq : q < a.e.length) => (E1.out.below hbl).ac hq)
    by_cases hlt : k < m
    · obtain ⟨c0, c1⟩ := geCells MQ.out
      obtain ⟨bw, ow, hAw, -, -, y9⟩ := HRV.out k hlt
      subst hAw
      obtain ⟨hi1, hi2⟩ := HW.out.lt k (by rw [HML.out]; exact hlt)
      have hno := HW.out.no k (by rw [HML.out]; exact hlt)
      have HNO := Lib.hid hno
      have hput := fun (h : k = 0) => (by subst h; exact HW.out.put : (ag a.e (L.getD k 0)).k = 5 ∧ (ag a.e (L.getD k 0)).c = c)
      have hcpy := fun j (hj : k = j + 1) => (by have h1 := HW.out.cpy j (by rw [HML.out]; omega); have h2 := HW.out.asc j (by rw [HML.out]; omega); have h3 := HW.out.lt j (by rw [HML.out]; omega); rw [← hj] at h1 h2; exact ⟨h1.1, h1.2, h2, h3.1⟩ : (ag a.e (L.getD k 0)).k = 7 ∧ (ag a.e (L.getD k 0)).f = (ag a.e (L.getD j 0)).p ∧ L.getD j 0 < L.getD k 0 ∧ L.getD j 0 < a.e.length)
      have hnx := fun (h : k + 1 < m) => (by have h2 := HW.out.asc k (by rw [HML.out]; omega); have h3 := HW.out.lt (k + 1) (by rw [HML.out]; omega); exact ⟨h2, h3.1⟩ : L.getD k 0 < L.getD (k + 1) 0 ∧ L.getD (k + 1) 0 < a.e.length)
      generalize hgi : L.getD k 0 = i at *
      obtain ⟨b, off, hA, -, hbk, hac⟩ := HEV.out i hi1
      have hA : A = some ⟨b, off, none⟩ := hA
      subst hA
      obtain ⟨y0, y1, y2, y3, y4, y5, y6⟩ := hac
      have HXE := Lib.hid (show ag a.e i = ag a.e i from rfl)
      generalize hgx : ag a.e i = x at *
      obtain ⟨xt, xk, xp, xr, xu, xc, xf⟩ := x
      simp only at y0 y1 y2 y3 y4 y5 y6 hi2 hput hcpy
      have HRM := Lib.hid (fun fr (hf : fr ≤ a.e.length) (hq : ∀ j, j < fr → k + 1 < m → j < L.getD (k + 1) 0) w' (hb : Below w1.heap.size w1 w') => removed_no a ⟨some ⟨b, off, none⟩, vc⟩ c xp t i fr w' (Row.below E1.out hb) hm hi1 hf (fun j h1 h2 h3 => by have h5 := HNO.out j h1 (by rw [HML.out]; exact hq j h2) (by omega) h3; exact h5))
      have hbx := box_below wr (.cells #[.int .i64 xt, .int .i64 xk, .int .i64 xp, .int .i64 xr, .int .i64 xu, .int .i64 xc, .int .i64 xf] 52)
      have BX := Lib.hid (hbl.trans (hbx.mono hbl.size))
      have XN := Lib.hid (heap_alloc_new wr (.cells #[.int .i64 xt, .int .i64 xk, .int .i64 xp, .int .i64 xr, .int .i64 xu, .int .i64 xc, .int .i64 xf] 52))
      obtain ⟨n0, n1, n2, n3, n4, n5, n6⟩ := accCells (x := ⟨xt, xk, xp, xr, xu, xc, xf⟩) XN.out
      simp only at n0 n1 n2 n3 n4 n5 n6
      have i0 : (0 : Int) ≤ (i : Int) := by omega
      have i1 : (i : Int) < (a.e.length : Int) := by omega
      have k0 : (0 : Int) ≤ (k : Int) := by omega
      have k1 : (k : Int) < (m : Int) := by omega
      have d1 : decide ((i : Int) < 0) = false := decide_eq_false (by omega)
      have d2 : decide ((a.e.length : Int) ≤ (i : Int)) = false := decide_eq_false (by omega)
      have d3 : decide (t < xt) = false := decide_eq_false (by omega)
      have MX := Lib.hid ((hbx.block _ (row_lt MQ.out)).trans MQ.out)
      obtain ⟨u0, u1⟩ := geCells MX.out
      have hr8 := fun j (hj : k = j + 1) => HRV.out j (by omega)
      have HXR := Lib.hid (fun q (hq : q < m) => (((R1.out.below hbl).below hbx)).int hq)
      have HXV := Lib.hid (fun q (hq : q < a.e.length) => (((E1.out.below hbl).below hbx)).ac hq)
      obtain ⟨nk, hnk⟩ : ∃ nk, k + 1 = nk := ⟨_, rfl⟩
      have hsum : (k : Int) + 1 = (nk : Int) := by omega
      have HNK := Lib.hid hnk
      have hxe := HXE.out
      clear hbx hbl hno hgi hgx hnk HXE HEV HRV hxe
      by_cases hk0 : k = 0
      · obtain ⟨hx5, hxc⟩ := hput hk0
        subst hx5 hxc
        subst hk0
        have e1 : (xc != xc) = false := by simp
        clear hput hcpy hr8
        simp only [Nat.add_zero] at y9
        simp only [show ((0 : Nat) : Int) = 0 from rfl] at *
        by_cases hnm : nk < m
        · have d8 : decide ((nk : Int) < (m : Int)) = true := decide_eq_true (by omega)
          obtain ⟨hx1, hx2⟩ := hnx (by have := HNK.out; omega)
          have HR9 := Lib.hid (fun w' hb => HRM.out (L.getD nk 0) (by rw [← HNK.out]; omega) (fun q h1 _ => by rw [HNK.out]; exact h1) w' hb)
          obtain ⟨bw3, ow3, hAw3, -, -, y7⟩ := HXR.out nk hnm
          cases hAw3
          rw [HNK.out] at hx1 hx2
          generalize L.getD nk 0 = nx at *
          have hmin : min (nx : Int) (a.e.length : Int) = (nx : Int) := by omega
          have q2 : (nk : Int) < (m : Int) := by omega
          have q3 : (0 : Int) ≤ (nk : Int) := by omega
          clear hnx HRM
          go_wp2_with fail
          go_quiet (fail)
          go_wp2_with (go_at_call 65; rw [HF.out]; refine (HR9.out _ (below_dn2 BX.out _)).mono ?_; rintro e w5 ⟨rfl, hb5⟩; have B5 := Lib.hid ((below_dn2 BX.out _).trans (hb5.mono BX.out.size)); clear hb5)
          exact ⟨⟨nk, by omega, by go_num, B5.out⟩, by simp [intOf]; omega⟩
        · have d8 : decide ((nk : Int) < (m : Int)) = false := decide_eq_false (by omega)
          have HR9 := Lib.hid (fun w' hb => HRM.out a.e.length (Nat.le_refl _) (fun q _ h2 => absurd h2 (by have := HNK.out; omega)) w' hb)
          clear hnx HRM
          go_wp2_with fail
          go_quiet (fail)
          go_wp2_with (go_at_call 65; rw [HF.out]; refine (HR9.out _ (below_dn2 BX.out _)).mono ?_; rintro e w5 ⟨rfl, hb5⟩; have B5 := Lib.hid ((below_dn2 BX.out _).trans (hb5.mono BX.out.size)); clear hb5)
          exact ⟨⟨nk, by omega, by go_num, B5.out⟩, by simp [intOf]; omega⟩
      · obtain ⟨j, rfl⟩ : ∃ j, k = j + 1 := ⟨k - 1, by omega⟩
        obtain ⟨hx7, hxf, hji, hjl⟩ := hcpy j rfl
        obtain ⟨bw2, ow2, hAw2, -, -, y8⟩ := HXR.out j (by omega)
        cases hAw2
        obtain ⟨bw4, ow4, hAw4, -, -, y6w⟩ := hr8 j rfl
        cases hAw4
        obtain ⟨b2, off2, hA2, -, -, hac2⟩ := HXV.out (L.getD j 0) hjl
        cases hA2
        obtain ⟨-, -, z2, -, -, -, -⟩ := hac2
        rw [← hxf] at z2
        generalize L.getD j 0 = i2 at *
        subst hx7
        have e2 : decide ((0 : Int) < (j : Int) + 1) = true := decide_eq_true (by omega)
        have e3 : decide ((i : Int) ≤ (i2 : Int)) = false := decide_eq_false (by omega)
        have e4 : (xf != xf) = false := by simp
        have e5 : (((j : Int) + 1) == 0) = false := beq_eq_false_iff_ne.2 (by omega)
        have hw0 : IntKind.i64.wrap ((j : Int) + 1 - 1) = (j : Int) := by rw [show (j : Int) + 1 - 1 = (j : Int) by omega]; exact IntWalk.i64_in _ (by omega)
        have hw1 : IntKind.i64.wrap (j : Int) = (j : Int) := IntWalk.i64_in _ (by omega)
        have j0 : (0 : Int) ≤ (j : Int) := by omega
        have j1 : (j : Int) < (m : Int) := by omega
        have q0 : (0 : Int) ≤ (i2 : Int) := by omega
        have q1 : (i2 : Int) < (a.e.length : Int) := by omega
        clear hput hcpy hxf hr8
        have HQ1 := Lib.hid (show j + 1 + 1 = nk from HNK.out)
        by_cases hnm : nk < m
        · have d8 : decide ((nk : Int) < (m : Int)) = true := decide_eq_true (by omega)
          obtain ⟨hx1, hx2⟩ := hnx (by have := HNK.out; omega)
          have HR9 := Lib.hid (fun w' hb => HRM.out (L.getD nk 0) (by rw [← HNK.out]; omega) (fun q h1 _ => by rw [HNK.out]; exact h1) w' hb)
          obtain ⟨bw3, ow3, hAw3, -, -, y7⟩ := HXR.out nk hnm
          cases hAw3
          rw [HNK.out] at hx1 hx2
          simp only [← HQ1.out] at y7 hx1 hx2 HR9
          have q4 : (j : Int) + 1 + 1 < (m : Int) := by have := HQ1.out; omega
          generalize L.getD (j + 1 + 1) 0 = nx at *
          have hmin : min (nx : Int) (a.e.length : Int) = (nx : Int) := by omega
          have q2 : (nk : Int) < (m : Int) := by omega
          have q3 : (0 : Int) ≤ (nk : Int) := by omega
          clear hnx HRM
          go_wp2_with fail
          go_quiet (fail)
          go_wp2_with (go_at_call 65; rw [HF.out]; refine (HR9.out _ (below_dn2 BX.out _)).mono ?_; rintro e w5 ⟨rfl, hb5⟩; have B5 := Lib.hid ((below_dn2 BX.out _).trans (hb5.mono BX.out.size)); clear hb5)
          exact ⟨⟨nk, by omega, by go_num, B5.out⟩, by simp [intOf]; omega⟩
        · have d8 : decide ((nk : Int) < (m : Int)) = false := decide_eq_false (by omega)
          have HR9 := Lib.hid (fun w' hb => HRM.out a.e.length (Nat.le_refl _) (fun q _ h2 => absurd h2 (by have := HNK.out; omega)) w' hb)
          clear hnx HRM
          go_wp2_with fail
          go_quiet (fail)
          go_wp2_with (go_at_call 65; rw [HF.out]; refine (HR9.out _ (below_dn2 BX.out _)).mono ?_; rintro e w5 ⟨rfl, hb5⟩; have B5 := Lib.hid ((below_dn2 BX.out _).trans (hb5.mono BX.out.size)); clear hb5)
          exact ⟨⟨nk, by omega, by go_num, B5.out⟩, by simp [intOf]; omega⟩
    · obtain rfl : k = m := by omega
      obtain ⟨j, rfl⟩ : ∃ j, k = j + 1 := ⟨k - 1, by omega⟩
      obtain ⟨c0, c1⟩ := geCells MQ.out
      have hfin := HW.out.fin
      have hlj := HW.out.lt j (by rw [HML.out]; omega)
      rw [HML.out, show j + 1 - 1 = j by omega] at hfin
      obtain ⟨bw, ow, hAw, -, -, y9⟩ := HRV.out j (by omega)
      subst hAw
      obtain ⟨b, off, hA, -, hbk, hac⟩ := HEV.out _ hlj.1
      have hA : A = some ⟨b, off, none⟩ := hA
      subst hA
      obtain ⟨-, -, y2, -, -, -, -⟩ := hac
      rw [hfin] at y2
      have hl := hlj.1
      generalize L.getD j 0 = i at *
      have hw0 : IntKind.i64.wrap ((j : Int) + 1 - 1) = (j : Int) := by rw [show (j : Int) + 1 - 1 = (j : Int) by omega]; exact IntWalk.i64_in _ (by omega)
      have hw1 : IntKind.i64.wrap (j : Int) = (j : Int) := IntWalk.i64_in _ (by omega)
      have j0 : (0 : Int) ≤ (j : Int) := by omega
      have j1 : (j : Int) < (j : Int) + 1 := by omega
      have i0 : (0 : Int) ≤ (i : Int) := by omega
      have i1 : (i : Int) < (a.e.length : Int) := by omega
      have e9 : ((P : Int) == (P : Int)) = true := by simp
      have HBF := Lib.hid (HB1.out.trans (hbl.mono HB1.out.size))
      clear hbl hfin hlj
      go_wp2_with fail
      go_quiet (fail)
      go_wp2_with fail
      go_ret
      exact ⟨by first | rfl | simp, below_dn2 HBF.out _⟩

end Go.Proofs.Ytfdmneceecaocaa.Di
