import Derived.Test.YtahggnlmabdbbaaDoorRtA
namespace Go.Proofs.YtahggnlmabdbbaaDoor.Di
open Go.RowKit
open Go.Proofs.YtahggnlmabdbbaaDoor.Tp
set_option linter.unusedVariables false

theorem any_true {p : Nat → Bool} {n j : Nat} (hj : j < n) (h : p j = true) : anyB p n = true := (any_iff p n).2 ⟨j, hj, h⟩
theorem nB_of {p : Prop} (h : nB p = false) : p := by
  by_cases hp : p
  · exact hp
  · rw [nB_no hp] at h; cases h
set_option maxRecDepth 100000 in
set_option maxHeartbeats 4000000 in
theorem check_any (x : Rt) (v : Vr) (w : World) (h : RL w 0 x v) (hs : x.g.length ≤ 1099511627776 ∧ x.s.length ≤ 1099511627776 ∧ x.m.length ≤ 1099511627776) :
    Calls Tryd.prog 24 #[.agg (gr x v)] w fun e w' => e = .returned (.int .i64 (ck x)) ∧ Below w.heap.size w w' := by
  have HB0 := Lib.hid (box_below w (.cells (gr x v) 27))
  have HR0 := Lib.hid (heap_alloc_new w (.cells (gr x v) 27))
  have HD := Lib.hid h
  have HCF1 := Lib.hid (fun w' (hb : Below w.heap.size w w') (hm : w'.heap[w.heap.size]? = some (.cells (gr x v) 27 (0, 0))) => g_cf x.g #[.pointer (some ⟨w.heap.size, 0, none⟩)] v.A1 x.g.length v.c1 (fun j => nB (okG x (e3 x.g j))) w' ((h.below hb).r1) hs.1 (fun i hi w2 hb2 => ck1_call x v (e3 x.g i) w.heap.size w2 ((hb2.block _ (row_lt hm)).trans hm)))
  have HCF2 := Lib.hid (fun w' (hb : Below w.heap.size w w') (hm : w'.heap[w.heap.size]? = some (.cells (gr x v) 27 (0, 0))) => s_cf x.s #[.pointer (some ⟨w.heap.size, 0, none⟩)] v.A2 x.s.length v.c2 (fun j => nB (okS x (e2 x.s j))) w' ((h.below hb).r2) hs.2.1 (fun i hi w2 hb2 => ck2_call x v (e2 x.s i) w.heap.size w2 ((hb2.block _ (row_lt hm)).trans hm)))
  have HCF3 := Lib.hid (fun w' (hb : Below w.heap.size w w') (hm : w'.heap[w.heap.size]? = some (.cells (gr x v) 27 (0, 0))) => m_cf x.m #[.pointer (some ⟨w.heap.size, 0, none⟩)] v.A3 x.m.length v.c3 (fun j => nB (okM x (e2 x.m j))) w' ((h.below hb).r3) hs.2.2 (fun i hi w2 hb2 => ck3_call x v (e2 x.m i) w.heap.size w2 ((hb2.block _ (row_lt hm)).trans hm)))
  obtain ⟨c0, c1, c2, c3, c4⟩ := grCells HR0.out
  clear h
  have l1 : (0 : Int) ≤ (x.g.length : Int) := by omega
  have l2 : (0 : Int) ≤ (x.s.length : Int) := by omega
  have l3 : (0 : Int) ≤ (x.m.length : Int) := by omega
  by_cases h1 : x.c < 0
  · have HV := Lib.hid (ck_no (x := x) (fun h => by have := h.c0; omega))
    have d1 : decide (x.c < (0 : Int)) = true := decide_eq_true h1
    clear h1
    go_enter Tryd.func24, Tryd.ntmps24
    go_wp2_with fail
    go_ret
    exact ⟨by rw [HV.out]; first | rfl | simp, HB0.out⟩
  have d1 : decide (x.c < (0 : Int)) = false := decide_eq_false h1
  by_cases h2 : 24 < x.c
  · have HV := Lib.hid (ck_no (x := x) (fun h => by have := h.c1; omega))
    have d2 : decide ((24 : Int) < x.c) = true := decide_eq_true h2
    clear h1 h2
    go_enter Tryd.func24, Tryd.ntmps24
    go_wp2_with fail
    go_ret
    exact ⟨by rw [HV.out]; first | rfl | simp, HB0.out⟩
  have d2 : decide ((24 : Int) < x.c) = false := decide_eq_false h2
  by_cases h3 : x.k < 0
  · have HV := Lib.hid (ck_no (x := x) (fun h => by have := h.k0; omega))
    have d3 : decide (x.k < (0 : Int)) = true := decide_eq_true h3
    clear h1 h2 h3
    go_enter Tryd.func24, Tryd.ntmps24
    go_wp2_with fail
    go_ret
    exact ⟨by rw [HV.out]; first | rfl | simp, HB0.out⟩
  have d3 : decide (x.k < (0 : Int)) = false := decide_eq_false h3
  by_cases h4 : 24 < x.k
  · have HV := Lib.hid (ck_no (x := x) (fun h => by have := h.k1; omega))
    have d4 : decide ((24 : Int) < x.k) = true := decide_eq_true h4
    clear h1 h2 h3 h4
    go_enter Tryd.func24, Tryd.ntmps24
    go_wp2_with fail
    go_ret
    exact ⟨by rw [HV.out]; first | rfl | simp, HB0.out⟩
  have d4 : decide ((24 : Int) < x.k) = false := decide_eq_false h4
  by_cases a1 : x.g.length < x.s.length
  · by_cases a2 : x.s.length < x.m.length
    · skip
      by_cases h5 : 100 < x.m.length
      · have HV := Lib.hid (ck_no (x := x) (fun h => by have := h.lg; have := h.ls; have := h.lm; omega))
        have d5 : decide ((100 : Int) < (x.m.length : Int)) = true := decide_eq_true (by omega)
        have d5' : 100 < x.m.length := h5
        clear h1 h2 h3 h4 h5
        go_enter Tryd.func24, Tryd.ntmps24
        go_wp2_with fail
        go_ret
        exact ⟨by rw [HV.out]; first | rfl | simp, HB0.out⟩
      have d5 : decide ((100 : Int) < (x.m.length : Int)) = false := decide_eq_false (by omega)
      have d5' : ¬ 100 < x.m.length := h5
      cases ha : anyB (fun j => nB (okG x (e3 x.g j))) x.g.length with
      | true =>
        have HV := Lib.hid (ck_no (x := x) (fun h => by obtain ⟨j, hj, hp⟩ := (any_iff _ _).1 ha; exact nB_iff.1 hp (h.g j hj)))
        have C1 := Lib.hid (HCF1.out _ HB0.out HR0.out)
        rw [ha] at C1
        clear ha h1 h2 h3 h4 h5 HCF1 HCF2 HCF3
        go_enter Tryd.func24, Tryd.ntmps24
        go_wp2_with (go_at_call 37; (with_reducible refine C1.out.mono ?_); rintro e w1 ⟨rfl, hb1⟩; have HB1 := Lib.hid (HB0.out.trans (hb1.mono HB0.out.size)); have M1 := Lib.hid ((hb1.block _ (row_lt HR0.out)).trans HR0.out); clear hb1 c0 c1 c2 c3 c4; obtain ⟨c0, c1, c2, c3, c4⟩ := grCells M1.out)
        go_ret
        exact ⟨by rw [HV.out]; first | rfl | simp, HB1.out⟩
      | false =>
        have C1 := Lib.hid (HCF1.out _ HB0.out HR0.out)
        rw [ha] at C1
        cases hb : anyB (fun j => nB (okS x (e2 x.s j))) x.s.length with
        | true =>
          have HV := Lib.hid (ck_no (x := x) (fun h => by obtain ⟨j, hj, hp⟩ := (any_iff _ _).1 hb; exact nB_iff.1 hp (h.s j hj)))
          have C2 := HCF2
          rw [hb] at C2
          clear ha hb h1 h2 h3 h4 h5 HCF1 HCF2 HCF3
          go_enter Tryd.func24, Tryd.ntmps24
          go_wp2_with (first
            | (go_at_call 37; (with_reducible refine C1.out.mono ?_); rintro e w1 ⟨rfl, hb1⟩; have HB1 := Lib.hid (HB0.out.trans (hb1.mono HB0.out.size)); have M1 := Lib.hid ((hb1.block _ (row_lt HR0.out)).trans HR0.out); clear hb1 c0 c1 c2 c3 c4; obtain ⟨c0, c1, c2, c3, c4⟩ := grCells M1.out)
            | (go_at_call 38; (with_reducible refine (C2.out _ HB1.out M1.out).mono ?_); rintro e w2 ⟨rfl, hb2⟩; have HB2 := Lib.hid (HB1.out.trans (hb2.mono HB1.out.size)); have M2 := Lib.hid ((hb2.block _ (row_lt M1.out)).trans M1.out); clear hb2 c0 c1 c2 c3 c4; obtain ⟨c0, c1, c2, c3, c4⟩ := grCells M2.out))
          go_ret
          exact ⟨by rw [HV.out]; first | rfl | simp, HB2.out⟩
        | false =>
          have C2 := HCF2
          rw [hb] at C2
          cases hc : anyB (fun j => nB (okM x (e2 x.m j))) x.m.length with
          | true =>
            have HV := Lib.hid (ck_no (x := x) (fun h => by obtain ⟨j, hj, hp⟩ := (any_iff _ _).1 hc; exact nB_iff.1 hp (h.m j hj)))
            have C3 := HCF3
            rw [hc] at C3
            clear ha hb hc h1 h2 h3 h4 h5 HCF1 HCF2 HCF3
            go_enter Tryd.func24, Tryd.ntmps24
            go_wp2_with (first
            | (go_at_call 37; (with_reducible refine C1.out.mono ?_); rintro e w1 ⟨rfl, hb1⟩; have HB1 := Lib.hid (HB0.out.trans (hb1.mono HB0.out.size)); have M1 := Lib.hid ((hb1.block _ (row_lt HR0.out)).trans HR0.out); clear hb1 c0 c1 c2 c3 c4; obtain ⟨c0, c1, c2, c3, c4⟩ := grCells M1.out)
            | (go_at_call 38; (with_reducible refine (C2.out _ HB1.out M1.out).mono ?_); rintro e w2 ⟨rfl, hb2⟩; have HB2 := Lib.hid (HB1.out.trans (hb2.mono HB1.out.size)); have M2 := Lib.hid ((hb2.block _ (row_lt M1.out)).trans M1.out); clear hb2 c0 c1 c2 c3 c4; obtain ⟨c0, c1, c2, c3, c4⟩ := grCells M2.out)
            | (go_at_call 39; (with_reducible refine (C3.out _ HB2.out M2.out).mono ?_); rintro e w3 ⟨rfl, hb3⟩; have HB3 := Lib.hid (HB2.out.trans (hb3.mono HB2.out.size)); clear hb3))
            go_ret
            exact ⟨by rw [HV.out]; first | rfl | simp, HB3.out⟩
          | false =>
            have HV := Lib.hid (ck_ok (x := x) ⟨by omega, by omega, by omega, by omega, by omega, by omega, by omega, fun j hj => nB_of (no_any ha j hj), fun j hj => nB_of (no_any hb j hj), fun j hj => nB_of (no_any hc j hj)⟩)
            have C3 := HCF3
            rw [hc] at C3
            clear ha hb hc h1 h2 h3 h4 h5 HCF1 HCF2 HCF3
            go_enter Tryd.func24, Tryd.ntmps24
            go_wp2_with (first
            | (go_at_call 37; (with_reducible refine C1.out.mono ?_); rintro e w1 ⟨rfl, hb1⟩; have HB1 := Lib.hid (HB0.out.trans (hb1.mono HB0.out.size)); have M1 := Lib.hid ((hb1.block _ (row_lt HR0.out)).trans HR0.out); clear hb1 c0 c1 c2 c3 c4; obtain ⟨c0, c1, c2, c3, c4⟩ := grCells M1.out)
            | (go_at_call 38; (with_reducible refine (C2.out _ HB1.out M1.out).mono ?_); rintro e w2 ⟨rfl, hb2⟩; have HB2 := Lib.hid (HB1.out.trans (hb2.mono HB1.out.size)); have M2 := Lib.hid ((hb2.block _ (row_lt M1.out)).trans M1.out); clear hb2 c0 c1 c2 c3 c4; obtain ⟨c0, c1, c2, c3, c4⟩ := grCells M2.out)
            | (go_at_call 39; (with_reducible refine (C3.out _ HB2.out M2.out).mono ?_); rintro e w3 ⟨rfl, hb3⟩; have HB3 := Lib.hid (HB2.out.trans (hb3.mono HB2.out.size)); clear hb3))
            go_ret
            exact ⟨by rw [HV.out]; first | rfl | simp, HB3.out⟩
    · skip
      by_cases h5 : 100 < x.s.length
      · have HV := Lib.hid (ck_no (x := x) (fun h => by have := h.lg; have := h.ls; have := h.lm; omega))
        have d5 : decide ((100 : Int) < (x.s.length : Int)) = true := decide_eq_true (by omega)
        have d5' : 100 < x.s.length := h5
        clear h1 h2 h3 h4 h5
        go_enter Tryd.func24, Tryd.ntmps24
        go_wp2_with fail
        go_ret
        exact ⟨by rw [HV.out]; first | rfl | simp, HB0.out⟩
      have d5 : decide ((100 : Int) < (x.s.length : Int)) = false := decide_eq_false (by omega)
      have d5' : ¬ 100 < x.s.length := h5
      cases ha : anyB (fun j => nB (okG x (e3 x.g j))) x.g.length with
      | true =>
        have HV := Lib.hid (ck_no (x := x) (fun h => by obtain ⟨j, hj, hp⟩ := (any_iff _ _).1 ha; exact nB_iff.1 hp (h.g j hj)))
        have C1 := Lib.hid (HCF1.out _ HB0.out HR0.out)
        rw [ha] at C1
        clear ha h1 h2 h3 h4 h5 HCF1 HCF2 HCF3
        go_enter Tryd.func24, Tryd.ntmps24
        go_wp2_with (go_at_call 37; (with_reducible refine C1.out.mono ?_); rintro e w1 ⟨rfl, hb1⟩; have HB1 := Lib.hid (HB0.out.trans (hb1.mono HB0.out.size)); have M1 := Lib.hid ((hb1.block _ (row_lt HR0.out)).trans HR0.out); clear hb1 c0 c1 c2 c3 c4; obtain ⟨c0, c1, c2, c3, c4⟩ := grCells M1.out)
        go_ret
        exact ⟨by rw [HV.out]; first | rfl | simp, HB1.out⟩
      | false =>
        have C1 := Lib.hid (HCF1.out _ HB0.out HR0.out)
        rw [ha] at C1
        cases hb : anyB (fun j => nB (okS x (e2 x.s j))) x.s.length with
        | true =>
          have HV := Lib.hid (ck_no (x := x) (fun h => by obtain ⟨j, hj, hp⟩ := (any_iff _ _).1 hb; exact nB_iff.1 hp (h.s j hj)))
          have C2 := HCF2
          rw [hb] at C2
          clear ha hb h1 h2 h3 h4 h5 HCF1 HCF2 HCF3
          go_enter Tryd.func24, Tryd.ntmps24
          go_wp2_with (first
            | (go_at_call 37; (with_reducible refine C1.out.mono ?_); rintro e w1 ⟨rfl, hb1⟩; have HB1 := Lib.hid (HB0.out.trans (hb1.mono HB0.out.size)); have M1 := Lib.hid ((hb1.block _ (row_lt HR0.out)).trans HR0.out); clear hb1 c0 c1 c2 c3 c4; obtain ⟨c0, c1, c2, c3, c4⟩ := grCells M1.out)
            | (go_at_call 38; (with_reducible refine (C2.out _ HB1.out M1.out).mono ?_); rintro e w2 ⟨rfl, hb2⟩; have HB2 := Lib.hid (HB1.out.trans (hb2.mono HB1.out.size)); have M2 := Lib.hid ((hb2.block _ (row_lt M1.out)).trans M1.out); clear hb2 c0 c1 c2 c3 c4; obtain ⟨c0, c1, c2, c3, c4⟩ := grCells M2.out))
          go_ret
          exact ⟨by rw [HV.out]; first | rfl | simp, HB2.out⟩
        | false =>
          have C2 := HCF2
          rw [hb] at C2
          cases hc : anyB (fun j => nB (okM x (e2 x.m j))) x.m.length with
          | true =>
            have HV := Lib.hid (ck_no (x := x) (fun h => by obtain ⟨j, hj, hp⟩ := (any_iff _ _).1 hc; exact nB_iff.1 hp (h.m j hj)))
            have C3 := HCF3
            rw [hc] at C3
            clear ha hb hc h1 h2 h3 h4 h5 HCF1 HCF2 HCF3
            go_enter Tryd.func24, Tryd.ntmps24
            go_wp2_with (first
            | (go_at_call 37; (with_reducible refine C1.out.mono ?_); rintro e w1 ⟨rfl, hb1⟩; have HB1 := Lib.hid (HB0.out.trans (hb1.mono HB0.out.size)); have M1 := Lib.hid ((hb1.block _ (row_lt HR0.out)).trans HR0.out); clear hb1 c0 c1 c2 c3 c4; obtain ⟨c0, c1, c2, c3, c4⟩ := grCells M1.out)
            | (go_at_call 38; (with_reducible refine (C2.out _ HB1.out M1.out).mono ?_); rintro e w2 ⟨rfl, hb2⟩; have HB2 := Lib.hid (HB1.out.trans (hb2.mono HB1.out.size)); have M2 := Lib.hid ((hb2.block _ (row_lt M1.out)).trans M1.out); clear hb2 c0 c1 c2 c3 c4; obtain ⟨c0, c1, c2, c3, c4⟩ := grCells M2.out)
            | (go_at_call 39; (with_reducible refine (C3.out _ HB2.out M2.out).mono ?_); rintro e w3 ⟨rfl, hb3⟩; have HB3 := Lib.hid (HB2.out.trans (hb3.mono HB2.out.size)); clear hb3))
            go_ret
            exact ⟨by rw [HV.out]; first | rfl | simp, HB3.out⟩
          | false =>
            have HV := Lib.hid (ck_ok (x := x) ⟨by omega, by omega, by omega, by omega, by omega, by omega, by omega, fun j hj => nB_of (no_any ha j hj), fun j hj => nB_of (no_any hb j hj), fun j hj => nB_of (no_any hc j hj)⟩)
            have C3 := HCF3
            rw [hc] at C3
            clear ha hb hc h1 h2 h3 h4 h5 HCF1 HCF2 HCF3
            go_enter Tryd.func24, Tryd.ntmps24
            go_wp2_with (first
            | (go_at_call 37; (with_reducible refine C1.out.mono ?_); rintro e w1 ⟨rfl, hb1⟩; have HB1 := Lib.hid (HB0.out.trans (hb1.mono HB0.out.size)); have M1 := Lib.hid ((hb1.block _ (row_lt HR0.out)).trans HR0.out); clear hb1 c0 c1 c2 c3 c4; obtain ⟨c0, c1, c2, c3, c4⟩ := grCells M1.out)
            | (go_at_call 38; (with_reducible refine (C2.out _ HB1.out M1.out).mono ?_); rintro e w2 ⟨rfl, hb2⟩; have HB2 := Lib.hid (HB1.out.trans (hb2.mono HB1.out.size)); have M2 := Lib.hid ((hb2.block _ (row_lt M1.out)).trans M1.out); clear hb2 c0 c1 c2 c3 c4; obtain ⟨c0, c1, c2, c3, c4⟩ := grCells M2.out)
            | (go_at_call 39; (with_reducible refine (C3.out _ HB2.out M2.out).mono ?_); rintro e w3 ⟨rfl, hb3⟩; have HB3 := Lib.hid (HB2.out.trans (hb3.mono HB2.out.size)); clear hb3))
            go_ret
            exact ⟨by rw [HV.out]; first | rfl | simp, HB3.out⟩
  · by_cases a2 : x.g.length < x.m.length
    · skip
      by_cases h5 : 100 < x.m.length
      · have HV := Lib.hid (ck_no (x := x) (fun h => by have := h.lg; have := h.ls; have := h.lm; omega))
        have d5 : decide ((100 : Int) < (x.m.length : Int)) = true := decide_eq_true (by omega)
        have d5' : 100 < x.m.length := h5
        clear h1 h2 h3 h4 h5
        go_enter Tryd.func24, Tryd.ntmps24
        go_wp2_with fail
        go_ret
        exact ⟨by rw [HV.out]; first | rfl | simp, HB0.out⟩
      have d5 : decide ((100 : Int) < (x.m.length : Int)) = false := decide_eq_false (by omega)
      have d5' : ¬ 100 < x.m.length := h5
      cases ha : anyB (fun j => nB (okG x (e3 x.g j))) x.g.length with
      | true =>
        have HV := Lib.hid (ck_no (x := x) (fun h => by obtain ⟨j, hj, hp⟩ := (any_iff _ _).1 ha; exact nB_iff.1 hp (h.g j hj)))
        have C1 := Lib.hid (HCF1.out _ HB0.out HR0.out)
        rw [ha] at C1
        clear ha h1 h2 h3 h4 h5 HCF1 HCF2 HCF3
        go_enter Tryd.func24, Tryd.ntmps24
        go_wp2_with (go_at_call 37; (with_reducible refine C1.out.mono ?_); rintro e w1 ⟨rfl, hb1⟩; have HB1 := Lib.hid (HB0.out.trans (hb1.mono HB0.out.size)); have M1 := Lib.hid ((hb1.block _ (row_lt HR0.out)).trans HR0.out); clear hb1 c0 c1 c2 c3 c4; obtain ⟨c0, c1, c2, c3, c4⟩ := grCells M1.out)
        go_ret
        exact ⟨by rw [HV.out]; first | rfl | simp, HB1.out⟩
      | false =>
        have C1 := Lib.hid (HCF1.out _ HB0.out HR0.out)
        rw [ha] at C1
        cases hb : anyB (fun j => nB (okS x (e2 x.s j))) x.s.length with
        | true =>
          have HV := Lib.hid (ck_no (x := x) (fun h => by obtain ⟨j, hj, hp⟩ := (any_iff _ _).1 hb; exact nB_iff.1 hp (h.s j hj)))
          have C2 := HCF2
          rw [hb] at C2
          clear ha hb h1 h2 h3 h4 h5 HCF1 HCF2 HCF3
          go_enter Tryd.func24, Tryd.ntmps24
          go_wp2_with (first
            | (go_at_call 37; (with_reducible refine C1.out.mono ?_); rintro e w1 ⟨rfl, hb1⟩; have HB1 := Lib.hid (HB0.out.trans (hb1.mono HB0.out.size)); have M1 := Lib.hid ((hb1.block _ (row_lt HR0.out)).trans HR0.out); clear hb1 c0 c1 c2 c3 c4; obtain ⟨c0, c1, c2, c3, c4⟩ := grCells M1.out)
            | (go_at_call 38; (with_reducible refine (C2.out _ HB1.out M1.out).mono ?_); rintro e w2 ⟨rfl, hb2⟩; have HB2 := Lib.hid (HB1.out.trans (hb2.mono HB1.out.size)); have M2 := Lib.hid ((hb2.block _ (row_lt M1.out)).trans M1.out); clear hb2 c0 c1 c2 c3 c4; obtain ⟨c0, c1, c2, c3, c4⟩ := grCells M2.out))
          go_ret
          exact ⟨by rw [HV.out]; first | rfl | simp, HB2.out⟩
        | false =>
          have C2 := HCF2
          rw [hb] at C2
          cases hc : anyB (fun j => nB (okM x (e2 x.m j))) x.m.length with
          | true =>
            have HV := Lib.hid (ck_no (x := x) (fun h => by obtain ⟨j, hj, hp⟩ := (any_iff _ _).1 hc; exact nB_iff.1 hp (h.m j hj)))
            have C3 := HCF3
            rw [hc] at C3
            clear ha hb hc h1 h2 h3 h4 h5 HCF1 HCF2 HCF3
            go_enter Tryd.func24, Tryd.ntmps24
            go_wp2_with (first
            | (go_at_call 37; (with_reducible refine C1.out.mono ?_); rintro e w1 ⟨rfl, hb1⟩; have HB1 := Lib.hid (HB0.out.trans (hb1.mono HB0.out.size)); have M1 := Lib.hid ((hb1.block _ (row_lt HR0.out)).trans HR0.out); clear hb1 c0 c1 c2 c3 c4; obtain ⟨c0, c1, c2, c3, c4⟩ := grCells M1.out)
            | (go_at_call 38; (with_reducible refine (C2.out _ HB1.out M1.out).mono ?_); rintro e w2 ⟨rfl, hb2⟩; have HB2 := Lib.hid (HB1.out.trans (hb2.mono HB1.out.size)); have M2 := Lib.hid ((hb2.block _ (row_lt M1.out)).trans M1.out); clear hb2 c0 c1 c2 c3 c4; obtain ⟨c0, c1, c2, c3, c4⟩ := grCells M2.out)
            | (go_at_call 39; (with_reducible refine (C3.out _ HB2.out M2.out).mono ?_); rintro e w3 ⟨rfl, hb3⟩; have HB3 := Lib.hid (HB2.out.trans (hb3.mono HB2.out.size)); clear hb3))
            go_ret
            exact ⟨by rw [HV.out]; first | rfl | simp, HB3.out⟩
          | false =>
            have HV := Lib.hid (ck_ok (x := x) ⟨by omega, by omega, by omega, by omega, by omega, by omega, by omega, fun j hj => nB_of (no_any ha j hj), fun j hj => nB_of (no_any hb j hj), fun j hj => nB_of (no_any hc j hj)⟩)
            have C3 := HCF3
            rw [hc] at C3
            clear ha hb hc h1 h2 h3 h4 h5 HCF1 HCF2 HCF3
            go_enter Tryd.func24, Tryd.ntmps24
            go_wp2_with (first
            | (go_at_call 37; (with_reducible refine C1.out.mono ?_); rintro e w1 ⟨rfl, hb1⟩; have HB1 := Lib.hid (HB0.out.trans (hb1.mono HB0.out.size)); have M1 := Lib.hid ((hb1.block _ (row_lt HR0.out)).trans HR0.out); clear hb1 c0 c1 c2 c3 c4; obtain ⟨c0, c1, c2, c3, c4⟩ := grCells M1.out)
            | (go_at_call 38; (with_reducible refine (C2.out _ HB1.out M1.out).mono ?_); rintro e w2 ⟨rfl, hb2⟩; have HB2 := Lib.hid (HB1.out.trans (hb2.mono HB1.out.size)); have M2 := Lib.hid ((hb2.block _ (row_lt M1.out)).trans M1.out); clear hb2 c0 c1 c2 c3 c4; obtain ⟨c0, c1, c2, c3, c4⟩ := grCells M2.out)
            | (go_at_call 39; (with_reducible refine (C3.out _ HB2.out M2.out).mono ?_); rintro e w3 ⟨rfl, hb3⟩; have HB3 := Lib.hid (HB2.out.trans (hb3.mono HB2.out.size)); clear hb3))
            go_ret
            exact ⟨by rw [HV.out]; first | rfl | simp, HB3.out⟩
    · skip
      by_cases h5 : 100 < x.g.length
      · have HV := Lib.hid (ck_no (x := x) (fun h => by have := h.lg; have := h.ls; have := h.lm; omega))
        have d5 : decide ((100 : Int) < (x.g.length : Int)) = true := decide_eq_true (by omega)
        have d5' : 100 < x.g.length := h5
        clear h1 h2 h3 h4 h5
        go_enter Tryd.func24, Tryd.ntmps24
        go_wp2_with fail
        go_ret
        exact ⟨by rw [HV.out]; first | rfl | simp, HB0.out⟩
      have d5 : decide ((100 : Int) < (x.g.length : Int)) = false := decide_eq_false (by omega)
      have d5' : ¬ 100 < x.g.length := h5
      cases ha : anyB (fun j => nB (okG x (e3 x.g j))) x.g.length with
      | true =>
        have HV := Lib.hid (ck_no (x := x) (fun h => by obtain ⟨j, hj, hp⟩ := (any_iff _ _).1 ha; exact nB_iff.1 hp (h.g j hj)))
        have C1 := Lib.hid (HCF1.out _ HB0.out HR0.out)
        rw [ha] at C1
        clear ha h1 h2 h3 h4 h5 HCF1 HCF2 HCF3
        go_enter Tryd.func24, Tryd.ntmps24
        go_wp2_with (go_at_call 37; (with_reducible refine C1.out.mono ?_); rintro e w1 ⟨rfl, hb1⟩; have HB1 := Lib.hid (HB0.out.trans (hb1.mono HB0.out.size)); have M1 := Lib.hid ((hb1.block _ (row_lt HR0.out)).trans HR0.out); clear hb1 c0 c1 c2 c3 c4; obtain ⟨c0, c1, c2, c3, c4⟩ := grCells M1.out)
        go_ret
        exact ⟨by rw [HV.out]; first | rfl | simp, HB1.out⟩
      | false =>
        have C1 := Lib.hid (HCF1.out _ HB0.out HR0.out)
        rw [ha] at C1
        cases hb : anyB (fun j => nB (okS x (e2 x.s j))) x.s.length with
        | true =>
          have HV := Lib.hid (ck_no (x := x) (fun h => by obtain ⟨j, hj, hp⟩ := (any_iff _ _).1 hb; exact nB_iff.1 hp (h.s j hj)))
          have C2 := HCF2
          rw [hb] at C2
          clear ha hb h1 h2 h3 h4 h5 HCF1 HCF2 HCF3
          go_enter Tryd.func24, Tryd.ntmps24
          go_wp2_with (first
            | (go_at_call 37; (with_reducible refine C1.out.mono ?_); rintro e w1 ⟨rfl, hb1⟩; have HB1 := Lib.hid (HB0.out.trans (hb1.mono HB0.out.size)); have M1 := Lib.hid ((hb1.block _ (row_lt HR0.out)).trans HR0.out); clear hb1 c0 c1 c2 c3 c4; obtain ⟨c0, c1, c2, c3, c4⟩ := grCells M1.out)
            | (go_at_call 38; (with_reducible refine (C2.out _ HB1.out M1.out).mono ?_); rintro e w2 ⟨rfl, hb2⟩; have HB2 := Lib.hid (HB1.out.trans (hb2.mono HB1.out.size)); have M2 := Lib.hid ((hb2.block _ (row_lt M1.out)).trans M1.out); clear hb2 c0 c1 c2 c3 c4; obtain ⟨c0, c1, c2, c3, c4⟩ := grCells M2.out))
          go_ret
          exact ⟨by rw [HV.out]; first | rfl | simp, HB2.out⟩
        | false =>
          have C2 := HCF2
          rw [hb] at C2
          cases hc : anyB (fun j => nB (okM x (e2 x.m j))) x.m.length with
          | true =>
            have HV := Lib.hid (ck_no (x := x) (fun h => by obtain ⟨j, hj, hp⟩ := (any_iff _ _).1 hc; exact nB_iff.1 hp (h.m j hj)))
            have C3 := HCF3
            rw [hc] at C3
            clear ha hb hc h1 h2 h3 h4 h5 HCF1 HCF2 HCF3
            go_enter Tryd.func24, Tryd.ntmps24
            go_wp2_with (first
            | (go_at_call 37; (with_reducible refine C1.out.mono ?_); rintro e w1 ⟨rfl, hb1⟩; have HB1 := Lib.hid (HB0.out.trans (hb1.mono HB0.out.size)); have M1 := Lib.hid ((hb1.block _ (row_lt HR0.out)).trans HR0.out); clear hb1 c0 c1 c2 c3 c4; obtain ⟨c0, c1, c2, c3, c4⟩ := grCells M1.out)
            | (go_at_call 38; (with_reducible refine (C2.out _ HB1.out M1.out).mono ?_); rintro e w2 ⟨rfl, hb2⟩; have HB2 := Lib.hid (HB1.out.trans (hb2.mono HB1.out.size)); have M2 := Lib.hid ((hb2.block _ (row_lt M1.out)).trans M1.out); clear hb2 c0 c1 c2 c3 c4; obtain ⟨c0, c1, c2, c3, c4⟩ := grCells M2.out)
            | (go_at_call 39; (with_reducible refine (C3.out _ HB2.out M2.out).mono ?_); rintro e w3 ⟨rfl, hb3⟩; have HB3 := Lib.hid (HB2.out.trans (hb3.mono HB2.out.size)); clear hb3))
            go_ret
            exact ⟨by rw [HV.out]; first | rfl | simp, HB3.out⟩
          | false =>
            have HV := Lib.hid (ck_ok (x := x) ⟨by omega, by omega, by omega, by omega, by omega, by omega, by omega, fun j hj => nB_of (no_any ha j hj), fun j hj => nB_of (no_any hb j hj), fun j hj => nB_of (no_any hc j hj)⟩)
            have C3 := HCF3
            rw [hc] at C3
            clear ha hb hc h1 h2 h3 h4 h5 HCF1 HCF2 HCF3
            go_enter Tryd.func24, Tryd.ntmps24
            go_wp2_with (first
            | (go_at_call 37; (with_reducible refine C1.out.mono ?_); rintro e w1 ⟨rfl, hb1⟩; have HB1 := Lib.hid (HB0.out.trans (hb1.mono HB0.out.size)); have M1 := Lib.hid ((hb1.block _ (row_lt HR0.out)).trans HR0.out); clear hb1 c0 c1 c2 c3 c4; obtain ⟨c0, c1, c2, c3, c4⟩ := grCells M1.out)
            | (go_at_call 38; (with_reducible refine (C2.out _ HB1.out M1.out).mono ?_); rintro e w2 ⟨rfl, hb2⟩; have HB2 := Lib.hid (HB1.out.trans (hb2.mono HB1.out.size)); have M2 := Lib.hid ((hb2.block _ (row_lt M1.out)).trans M1.out); clear hb2 c0 c1 c2 c3 c4; obtain ⟨c0, c1, c2, c3, c4⟩ := grCells M2.out)
            | (go_at_call 39; (with_reducible refine (C3.out _ HB2.out M2.out).mono ?_); rintro e w3 ⟨rfl, hb3⟩; have HB3 := Lib.hid (HB2.out.trans (hb3.mono HB2.out.size)); clear hb3))
            go_ret
            exact ⟨by rw [HV.out]; first | rfl | simp, HB3.out⟩

end Go.Proofs.YtahggnlmabdbbaaDoor.Di
