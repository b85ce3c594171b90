import Derived.Test.YtahggnlmabdbbaaDoorRtMem
namespace Go.Proofs.YtahggnlmabdbbaaDoor.Di
open Go.RowKit
open Go.Proofs.YtahggnlmabdbbaaDoor.Tp
set_option linter.unusedVariables false

theorem num_yes {n s : Int} (h1 : 0 ≤ n) (h2 : n < s) (w : World) : Calls Tryd.prog 34 #[.int .i64 n, .int .i64 s] w fun e w' => e = .returned (.bool true) ∧ w = w' := by
  have d1 : decide ((0 : Int) ≤ n) = true := decide_eq_true h1
  have d2 : decide (n < s) = true := decide_eq_true h2
  clear h1 h2
  go_enter Tryd.func34, Tryd.ntmps34
  go_wp2_with fail
  go_ret
  exact ⟨by first | rfl | simp, rfl⟩
theorem num_no {n s : Int} (hn : ¬ (0 ≤ n ∧ n < s)) (w : World) : Calls Tryd.prog 34 #[.int .i64 n, .int .i64 s] w fun e w' => e = .returned (.bool false) ∧ w = w' := by
  by_cases h1 : 0 ≤ n
  · have d1 : decide ((0 : Int) ≤ n) = true := decide_eq_true h1
    have d2 : decide (n < s) = false := decide_eq_false (fun h => hn ⟨h1, h⟩)
    clear h1 hn
    go_enter Tryd.func34, Tryd.ntmps34
    go_wp2_with fail
    go_ret
    exact ⟨by first | rfl | simp, rfl⟩
  · have d1 : decide ((0 : Int) ≤ n) = false := decide_eq_false h1
    clear h1 hn
    go_enter Tryd.func34, Tryd.ntmps34
    go_wp2_with fail
    go_ret
    exact ⟨by first | rfl | simp, rfl⟩

noncomputable def nB (p : Prop) : Bool := !@decide p (Classical.propDecidable _)
theorem nB_yes {p : Prop} (h : p) : nB p = false := by unfold nB; rw [@decide_eq_true _ (Classical.propDecidable _) h]; rfl
theorem nB_no {p : Prop} (h : ¬ p) : nB p = true := by unfold nB; rw [@decide_eq_false _ (Classical.propDecidable _) h]; rfl
theorem nB_iff {p : Prop} : nB p = true ↔ ¬ p := by
  constructor
  · intro h hp; rw [nB_yes hp] at h; cases h
  · exact nB_no

set_option maxRecDepth 100000 in
set_option maxHeartbeats 400000 in
theorem ck1_call (x : Rt) (v : Vr) (y : T3) (g : Nat) (w : World) (hg : w.heap[g]? = some (.cells (gr x v) 27 (0, 0))) :
    Calls Tryd.prog 33 (#[.agg (c3 y)] ++ #[.pointer (some ⟨g, 0, none⟩)]) w fun e w' => e = .returned (.bool (nB (okG x y))) ∧ Below w.heap.size w w' := by
  have HB0 := Lib.hid (box_below w (.cells (c3 y) 54))
  have HR0 := heap_alloc_new w (.cells (c3 y) 54)
  obtain ⟨y0, y1, y2⟩ := c3Cells HR0
  obtain ⟨g0, g1, -, -, -⟩ := grCells (((box_below w (.cells (c3 y) 54)).block _ (row_lt hg)).trans hg)
  have HV := Lib.hid (show nB (okG x y) = nB (okG x y) from rfl)
  clear hg HR0
  by_cases h1 : 0 ≤ y.a ∧ y.a < x.c
  · have HN1 := Lib.hid (fun w => num_yes h1.1 h1.2 w)
    by_cases h2 : 0 ≤ y.b ∧ y.b < x.k
    · have HN2 := Lib.hid (fun w => num_yes h2.1 h2.2 w)
      by_cases h3 : y.c < 1
      · have d3 : decide (y.c < (1 : Int)) = true := decide_eq_true h3
        have HQ := Lib.hid (show nB (okG x y) = true from nB_no (fun h => by obtain ⟨_, _, _, _, h5, _⟩ := h; omega))
        clear h1 h2 h3
        go_enter Tryd.func33, Tryd.ntmps33
        go_wp2_with (first | (go_at_call 34; (with_reducible refine (HN1.out _).mono ?_); rintro e wq ⟨rfl, rfl⟩) | (go_at_call 34; (with_reducible refine (HN2.out _).mono ?_); rintro e wq ⟨rfl, rfl⟩))
        go_ret
        exact ⟨by rw [HQ.out]; first | rfl | simp, HB0.out⟩
      · have d3 : decide (y.c < (1 : Int)) = false := decide_eq_false h3
        by_cases h4 : 3 < y.c
        · have d4 : decide ((3 : Int) < y.c) = true := decide_eq_true h4
          have HQ := Lib.hid (show nB (okG x y) = true from nB_no (fun h => by obtain ⟨_, _, _, _, _, h6⟩ := h; omega))
          clear h1 h2 h3 h4
          go_enter Tryd.func33, Tryd.ntmps33
          go_wp2_with (first | (go_at_call 34; (with_reducible refine (HN1.out _).mono ?_); rintro e wq ⟨rfl, rfl⟩) | (go_at_call 34; (with_reducible refine (HN2.out _).mono ?_); rintro e wq ⟨rfl, rfl⟩))
          go_ret
          exact ⟨by rw [HQ.out]; first | rfl | simp, HB0.out⟩
        · have d4 : decide ((3 : Int) < y.c) = false := decide_eq_false h4
          have HQ := Lib.hid (show nB (okG x y) = false from nB_yes ⟨h1.1, h1.2, h2.1, h2.2, by omega, by omega⟩)
          clear h1 h2 h3 h4
          go_enter Tryd.func33, Tryd.ntmps33
          go_wp2_with (first | (go_at_call 34; (with_reducible refine (HN1.out _).mono ?_); rintro e wq ⟨rfl, rfl⟩) | (go_at_call 34; (with_reducible refine (HN2.out _).mono ?_); rintro e wq ⟨rfl, rfl⟩))
          go_ret
          exact ⟨by rw [HQ.out]; first | rfl | simp, HB0.out⟩
    · have HN2 := Lib.hid (fun w => num_no h2 w)
      have HQ := Lib.hid (show nB (okG x y) = true from nB_no (fun h => h2 ⟨h.2.2.1, h.2.2.2.1⟩))
      clear h1 h2
      go_enter Tryd.func33, Tryd.ntmps33
      go_wp2_with (first | (go_at_call 34; (with_reducible refine (HN1.out _).mono ?_); rintro e wq ⟨rfl, rfl⟩) | (go_at_call 34; (with_reducible refine (HN2.out _).mono ?_); rintro e wq ⟨rfl, rfl⟩))
      go_ret
      exact ⟨by rw [HQ.out]; first | rfl | simp, HB0.out⟩
  · have HN1 := Lib.hid (fun w => num_no h1 w)
    have HQ := Lib.hid (show nB (okG x y) = true from nB_no (fun h => h1 ⟨h.1, h.2.1⟩))
    clear h1
    go_enter Tryd.func33, Tryd.ntmps33
    go_wp2_with (go_at_call 34; (with_reducible refine (HN1.out _).mono ?_); rintro e wq ⟨rfl, rfl⟩)
    go_ret
    exact ⟨by rw [HQ.out]; first | rfl | simp, HB0.out⟩

set_option maxRecDepth 100000 in
set_option maxHeartbeats 400000 in
theorem ck2_call (x : Rt) (v : Vr) (y : T2) (g : Nat) (w : World) (hg : w.heap[g]? = some (.cells (gr x v) 27 (0, 0))) :
    Calls Tryd.prog 35 (#[.agg (c2 y)] ++ #[.pointer (some ⟨g, 0, none⟩)]) w fun e w' => e = .returned (.bool (nB (okS x y))) ∧ Below w.heap.size w w' := by
  have HB0 := Lib.hid (box_below w (.cells (c2 y) 60))
  have HR0 := heap_alloc_new w (.cells (c2 y) 60)
  obtain ⟨y0, y1⟩ := c2Cells HR0
  obtain ⟨g0, g1, -, -, -⟩ := grCells (((box_below w (.cells (c2 y) 60)).block _ (row_lt hg)).trans hg)
  have HV := Lib.hid (show nB (okS x y) = nB (okS x y) from rfl)
  clear hg HR0
  by_cases h1 : 0 ≤ y.a ∧ y.a < x.k
  · have HN1 := Lib.hid (fun w => num_yes h1.1 h1.2 w)
    by_cases h2 : 0 ≤ y.b ∧ y.b < x.c
    · have HN2 := Lib.hid (fun w => num_yes h2.1 h2.2 w)
      have HQ := Lib.hid (show nB (okS x y) = false from nB_yes ⟨h1.1, h1.2, h2.1, h2.2⟩)
      clear h1 h2
      go_enter Tryd.func35, Tryd.ntmps35
      go_wp2_with (first | (go_at_call 34; (with_reducible refine (HN1.out _).mono ?_); rintro e wq ⟨rfl, rfl⟩) | (go_at_call 34; (with_reducible refine (HN2.out _).mono ?_); rintro e wq ⟨rfl, rfl⟩))
      go_ret
      exact ⟨by rw [HQ.out]; first | rfl | simp, HB0.out⟩
    · have HN2 := Lib.hid (fun w => num_no h2 w)
      have HQ := Lib.hid (show nB (okS x y) = true from nB_no (fun h => h2 ⟨h.2.2.1, h.2.2.2⟩))
      clear h1 h2
      go_enter Tryd.func35, Tryd.ntmps35
      go_wp2_with (first | (go_at_call 34; (with_reducible refine (HN1.out _).mono ?_); rintro e wq ⟨rfl, rfl⟩) | (go_at_call 34; (with_reducible refine (HN2.out _).mono ?_); rintro e wq ⟨rfl, rfl⟩))
      go_ret
      exact ⟨by rw [HQ.out]; first | rfl | simp, HB0.out⟩
  · have HN1 := Lib.hid (fun w => num_no h1 w)
    have HQ := Lib.hid (show nB (okS x y) = true from nB_no (fun h => h1 ⟨h.1, h.2.1⟩))
    clear h1
    go_enter Tryd.func35, Tryd.ntmps35
    go_wp2_with (go_at_call 34; (with_reducible refine (HN1.out _).mono ?_); rintro e wq ⟨rfl, rfl⟩)
    go_ret
    exact ⟨by rw [HQ.out]; first | rfl | simp, HB0.out⟩

set_option maxRecDepth 100000 in
set_option maxHeartbeats 400000 in
theorem ck3_call (x : Rt) (v : Vr) (y : T2) (g : Nat) (w : World) (hg : w.heap[g]? = some (.cells (gr x v) 27 (0, 0))) :
    Calls Tryd.prog 36 (#[.agg (c2 y)] ++ #[.pointer (some ⟨g, 0, none⟩)]) w fun e w' => e = .returned (.bool (nB (okM x y))) ∧ Below w.heap.size w w' := by
  have HB0 := Lib.hid (box_below w (.cells (c2 y) 62))
  have HR0 := heap_alloc_new w (.cells (c2 y) 62)
  obtain ⟨y0, y1⟩ := c2Cells HR0
  obtain ⟨g0, g1, -, -, -⟩ := grCells (((box_below w (.cells (c2 y) 62)).block _ (row_lt hg)).trans hg)
  have HV := Lib.hid (show nB (okM x y) = nB (okM x y) from rfl)
  clear hg HR0
  by_cases h1 : 0 ≤ y.a ∧ y.a < x.c
  · have HN1 := Lib.hid (fun w => num_yes h1.1 h1.2 w)
    by_cases h2 : 0 ≤ y.b ∧ y.b < x.c
    · have HN2 := Lib.hid (fun w => num_yes h2.1 h2.2 w)
      have HQ := Lib.hid (show nB (okM x y) = false from nB_yes ⟨h1.1, h1.2, h2.1, h2.2⟩)
      clear h1 h2
      go_enter Tryd.func36, Tryd.ntmps36
      go_wp2_with (first | (go_at_call 34; (with_reducible refine (HN1.out _).mono ?_); rintro e wq ⟨rfl, rfl⟩) | (go_at_call 34; (with_reducible refine (HN2.out _).mono ?_); rintro e wq ⟨rfl, rfl⟩))
      go_ret
      exact ⟨by rw [HQ.out]; first | rfl | simp, HB0.out⟩
    · have HN2 := Lib.hid (fun w => num_no h2 w)
      have HQ := Lib.hid (show nB (okM x y) = true from nB_no (fun h => h2 ⟨h.2.2.1, h.2.2.2⟩))
      clear h1 h2
      go_enter Tryd.func36, Tryd.ntmps36
      go_wp2_with (first | (go_at_call 34; (with_reducible refine (HN1.out _).mono ?_); rintro e wq ⟨rfl, rfl⟩) | (go_at_call 34; (with_reducible refine (HN2.out _).mono ?_); rintro e wq ⟨rfl, rfl⟩))
      go_ret
      exact ⟨by rw [HQ.out]; first | rfl | simp, HB0.out⟩
  · have HN1 := Lib.hid (fun w => num_no h1 w)
    have HQ := Lib.hid (show nB (okM x y) = true from nB_no (fun h => h1 ⟨h.1, h.2.1⟩))
    clear h1
    go_enter Tryd.func36, Tryd.ntmps36
    go_wp2_with (go_at_call 34; (with_reducible refine (HN1.out _).mono ?_); rintro e wq ⟨rfl, rfl⟩)
    go_ret
    exact ⟨by rw [HQ.out]; first | rfl | simp, HB0.out⟩

set_option maxRecDepth 100000 in
set_option maxHeartbeats 400000 in
theorem g_idx (l : List T3) (ca : Array Value) (A : Option Addr) (n c : Nat) (p : Nat → Bool) (w : World) (h : Row w 0 3 A n (v3 l)) (hn : n ≤ 1099511627776)
    (hp : ∀ i, i < n → ∀ w', Below w.heap.size w w' → Calls Tryd.prog 33 (#[.agg (c3 (e3 l i))] ++ ca) w' fun e w'' => e = .returned (.bool (p i)) ∧ Below w'.heap.size w' w'') :
    Calls Tryd.prog 46 #[.slice A n c, .func (.func 33) #[] ca] w fun e w' => e = .returned (.int .i64 (fi p n 0)) ∧ Below w.heap.size w w' := by
  have H := Lib.hid h
  have HP := Lib.hid hp
  clear h hp
  go_enter Tryd.func46, Tryd.ntmps46
  go_wp2
  go_loopw [8] (fun i wr => ∃ k : Nat, k ≤ n ∧ i = .int .i64 k ∧ fi p n 0 = fi p (n - k) k ∧ Below w.heap.size w wr) (fun i _ => n - (intOf i).toNat)
  case atStart => exact ⟨0, by omega, rfl, rfl, Below.refl _ _⟩
  case round =>
    obtain ⟨k, hk, rfl, hfi, hbl⟩ := hrel
    have HBL := Lib.hid hbl
    have HF := Lib.hid hfi
    clear hfi
    by_cases hlt : k < n
    · obtain ⟨b, off, rfl, hB, hbk, y0, y1, y2⟩ := (H.out.below hbl).t3 hlt
      have HC := Lib.hid (HP.out k hlt wr hbl)
      have HFI := Lib.hid (fi_step p n k hlt)
      have j0 : (0 : Int) ≤ (k : Int) := by omega
      have j1 : (k : Int) < (n : Int) := by omega
      clear hbl
      generalize e3 l k = x at *
      obtain ⟨xa, xb, xc⟩ := x
      simp only [c3] at HC
      simp only at y0 y1 y2
      cases hpk : p k with
      | true =>
        rw [hpk] at HC
        have HPK := Lib.hid hpk
        clear hpk
        go_wp2_with (go_at_call 33; refine HC.out.mono ?_; rintro e w2 ⟨rfl, hb2⟩; have HB2 := Lib.hid (HBL.out.trans (hb2.mono HBL.out.size)); clear hb2)
        go_ret
        refine ⟨?_, HB2.out⟩
        rw [HF.out, HFI.out.1 HPK.out]
        rfl
      | false =>
        rw [hpk] at HC
        have HPK := Lib.hid hpk
        clear hpk
        go_wp2_with (go_at_call 33; refine HC.out.mono ?_; rintro e w2 ⟨rfl, hb2⟩; have HB2 := Lib.hid (HBL.out.trans (hb2.mono HBL.out.size)); clear hb2)
        exact ⟨⟨k + 1, by omega, by go_num, by rw [HF.out, HFI.out.2 HPK.out], HB2.out⟩, by simp [intOf]; omega⟩
    · obtain rfl : n = k := by omega
      go_wp2
      go_ret
      exact ⟨by rw [HF.out, Nat.sub_self]; rfl, HBL.out⟩
set_option maxRecDepth 100000 in
set_option maxHeartbeats 400000 in
theorem g_cf (l : List T3) (ca : Array Value) (A : Option Addr) (n c : Nat) (p : Nat → Bool) (w : World) (h : Row w 0 3 A n (v3 l)) (hn : n ≤ 1099511627776)
    (hp : ∀ i, i < n → ∀ w', Below w.heap.size w w' → Calls Tryd.prog 33 (#[.agg (c3 (e3 l i))] ++ ca) w' fun e w'' => e = .returned (.bool (p i)) ∧ Below w'.heap.size w' w'') :
    Calls Tryd.prog 37 #[.slice A n c, .func (.func 33) #[] ca] w fun e w' => e = .returned (.bool (anyB p n)) ∧ Below w.heap.size w w' := by
  have HI := Lib.hid (g_idx l ca A n c p w h hn hp)
  clear h hp
  cases ha : anyB p n with
  | true =>
    obtain ⟨q, hq⟩ := fi_some p n ha
    rw [hq] at HI
    have d : decide ((0 : Int) ≤ (q : Int)) = true := decide_eq_true (by omega)
    clear ha hq
    go_enter Tryd.func37, Tryd.ntmps37
    go_wp2_with (go_at_call 46; refine HI.out.mono ?_; rintro e w2 ⟨rfl, hb2⟩; have HB2 := Lib.hid hb2; clear hb2)
    go_ret
    exact ⟨by first | rfl | simp, HB2.out⟩
  | false =>
    rw [fi_none p n ha] at HI
    clear ha
    go_enter Tryd.func37, Tryd.ntmps37
    go_wp2_with (go_at_call 46; refine HI.out.mono ?_; rintro e w2 ⟨rfl, hb2⟩; have HB2 := Lib.hid hb2; clear hb2)
    go_ret
    exact ⟨by first | rfl | simp, HB2.out⟩

set_option maxRecDepth 100000 in
set_option maxHeartbeats 400000 in
theorem s_idx (l : List T2) (ca : Array Value) (A : Option Addr) (n c : Nat) (p : Nat → Bool) (w : World) (h : Row w 0 2 A n (v2 l)) (hn : n ≤ 1099511627776)
    (hp : ∀ i, i < n → ∀ w', Below w.heap.size w w' → Calls Tryd.prog 35 (#[.agg (c2 (e2 l i))] ++ ca) w' fun e w'' => e = .returned (.bool (p i)) ∧ Below w'.heap.size w' w'') :
    Calls Tryd.prog 47 #[.slice A n c, .func (.func 35) #[] ca] w fun e w' => e = .returned (.int .i64 (fi p n 0)) ∧ Below w.heap.size w w' := by
  have H := Lib.hid h
  have HP := Lib.hid hp
  clear h hp
  go_enter Tryd.func47, Tryd.ntmps47
  go_wp2
  go_loopw [8] (fun i wr => ∃ k : Nat, k ≤ n ∧ i = .int .i64 k ∧ fi p n 0 = fi p (n - k) k ∧ Below w.heap.size w wr) (fun i _ => n - (intOf i).toNat)
  case atStart => exact ⟨0, by omega, rfl, rfl, Below.refl _ _⟩
  case round =>
    obtain ⟨k, hk, rfl, hfi, hbl⟩ := hrel
    have HBL := Lib.hid hbl
    have HF := Lib.hid hfi
    clear hfi
    by_cases hlt : k < n
    · obtain ⟨b, off, rfl, hB, hbk, y0, y1⟩ := (H.out.below hbl).t2 hlt
      have HC := Lib.hid (HP.out k hlt wr hbl)
      have HFI := Lib.hid (fi_step p n k hlt)
      have j0 : (0 : Int) ≤ (k : Int) := by omega
      have j1 : (k : Int) < (n : Int) := by omega
      clear hbl
      generalize e2 l k = x at *
      obtain ⟨xa, xb⟩ := x
      simp only [c2] at HC
      simp only at y0 y1
      cases hpk : p k with
      | true =>
        rw [hpk] at HC
        have HPK := Lib.hid hpk
        clear hpk
        go_wp2_with (go_at_call 35; refine HC.out.mono ?_; rintro e w2 ⟨rfl, hb2⟩; have HB2 := Lib.hid (HBL.out.trans (hb2.mono HBL.out.size)); clear hb2)
        go_ret
        refine ⟨?_, HB2.out⟩
        rw [HF.out, HFI.out.1 HPK.out]
        rfl
      | false =>
        rw [hpk] at HC
        have HPK := Lib.hid hpk
        clear hpk
        go_wp2_with (go_at_call 35; refine HC.out.mono ?_; rintro e w2 ⟨rfl, hb2⟩; have HB2 := Lib.hid (HBL.out.trans (hb2.mono HBL.out.size)); clear hb2)
        exact ⟨⟨k + 1, by omega, by go_num, by rw [HF.out, HFI.out.2 HPK.out], HB2.out⟩, by simp [intOf]; omega⟩
    · obtain rfl : n = k := by omega
      go_wp2
      go_ret
      exact ⟨by rw [HF.out, Nat.sub_self]; rfl, HBL.out⟩
set_option maxRecDepth 100000 in
set_option maxHeartbeats 400000 in
theorem s_cf (l : List T2) (ca : Array Value) (A : Option Addr) (n c : Nat) (p : Nat → Bool) (w : World) (h : Row w 0 2 A n (v2 l)) (hn : n ≤ 1099511627776)
    (hp : ∀ i, i < n → ∀ w', Below w.heap.size w w' → Calls Tryd.prog 35 (#[.agg (c2 (e2 l i))] ++ ca) w' fun e w'' => e = .returned (.bool (p i)) ∧ Below w'.heap.size w' w'') :
    Calls Tryd.prog 38 #[.slice A n c, .func (.func 35) #[] ca] w fun e w' => e = .returned (.bool (anyB p n)) ∧ Below w.heap.size w w' := by
  have HI := Lib.hid (s_idx l ca A n c p w h hn hp)
  clear h hp
  cases ha : anyB p n with
  | true =>
    obtain ⟨q, hq⟩ := fi_some p n ha
    rw [hq] at HI
    have d : decide ((0 : Int) ≤ (q : Int)) = true := decide_eq_true (by omega)
    clear ha hq
    go_enter Tryd.func38, Tryd.ntmps38
    go_wp2_with (go_at_call 47; refine HI.out.mono ?_; rintro e w2 ⟨rfl, hb2⟩; have HB2 := Lib.hid hb2; clear hb2)
    go_ret
    exact ⟨by first | rfl | simp, HB2.out⟩
  | false =>
    rw [fi_none p n ha] at HI
    clear ha
    go_enter Tryd.func38, Tryd.ntmps38
    go_wp2_with (go_at_call 47; refine HI.out.mono ?_; rintro e w2 ⟨rfl, hb2⟩; have HB2 := Lib.hid hb2; clear hb2)
    go_ret
    exact ⟨by first | rfl | simp, HB2.out⟩

set_option maxRecDepth 100000 in
set_option maxHeartbeats 400000 in
theorem m_idx (l : List T2) (ca : Array Value) (A : Option Addr) (n c : Nat) (p : Nat → Bool) (w : World) (h : Row w 0 2 A n (v2 l)) (hn : n ≤ 1099511627776)
    (hp : ∀ i, i < n → ∀ w', Below w.heap.size w w' → Calls Tryd.prog 36 (#[.agg (c2 (e2 l i))] ++ ca) w' fun e w'' => e = .returned (.bool (p i)) ∧ Below w'.heap.size w' w'') :
    Calls Tryd.prog 48 #[.slice A n c, .func (.func 36) #[] ca] w fun e w' => e = .returned (.int .i64 (fi p n 0)) ∧ Below w.heap.size w w' := by
  have H := Lib.hid h
  have HP := Lib.hid hp
  clear h hp
  go_enter Tryd.func48, Tryd.ntmps48
  go_wp2
  go_loopw [8] (fun i wr => ∃ k : Nat, k ≤ n ∧ i = .int .i64 k ∧ fi p n 0 = fi p (n - k) k ∧ Below w.heap.size w wr) (fun i _ => n - (intOf i).toNat)
  case atStart => exact ⟨0, by omega, rfl, rfl, Below.refl _ _⟩
  case round =>
    obtain ⟨k, hk, rfl, hfi, hbl⟩ := hrel
    have HBL := Lib.hid hbl
    have HF := Lib.hid hfi
    clear hfi
    by_cases hlt : k < n
    · obtain ⟨b, off, rfl, hB, hbk, y0, y1⟩ := (H.out.below hbl).t2 hlt
      have HC := Lib.hid (HP.out k hlt wr hbl)
      have HFI := Lib.hid (fi_step p n k hlt)
      have j0 : (0 : Int) ≤ (k : Int) := by omega
      have j1 : (k : Int) < (n : Int) := by omega
      clear hbl
      generalize e2 l k = x at *
      obtain ⟨xa, xb⟩ := x
      simp only [c2] at HC
      simp only at y0 y1
      cases hpk : p k with
      | true =>
        rw [hpk] at HC
        have HPK := Lib.hid hpk
        clear hpk
        go_wp2_with (go_at_call 36; refine HC.out.mono ?_; rintro e w2 ⟨rfl, hb2⟩; have HB2 := Lib.hid (HBL.out.trans (hb2.mono HBL.out.size)); clear hb2)
        go_ret
        refine ⟨?_, HB2.out⟩
        rw [HF.out, HFI.out.1 HPK.out]
        rfl
      | false =>
        rw [hpk] at HC
        have HPK := Lib.hid hpk
        clear hpk
        go_wp2_with (go_at_call 36; refine HC.out.mono ?_; rintro e w2 ⟨rfl, hb2⟩; have HB2 := Lib.hid (HBL.out.trans (hb2.mono HBL.out.size)); clear hb2)
        exact ⟨⟨k + 1, by omega, by go_num, by rw [HF.out, HFI.out.2 HPK.out], HB2.out⟩, by simp [intOf]; omega⟩
    · obtain rfl : n = k := by omega
      go_wp2
      go_ret
      exact ⟨by rw [HF.out, Nat.sub_self]; rfl, HBL.out⟩
set_option maxRecDepth 100000 in
set_option maxHeartbeats 400000 in
theorem m_cf (l : List T2) (ca : Array Value) (A : Option Addr) (n c : Nat) (p : Nat → Bool) (w : World) (h : Row w 0 2 A n (v2 l)) (hn : n ≤ 1099511627776)
    (hp : ∀ i, i < n → ∀ w', Below w.heap.size w w' → Calls Tryd.prog 36 (#[.agg (c2 (e2 l i))] ++ ca) w' fun e w'' => e = .returned (.bool (p i)) ∧ Below w'.heap.size w' w'') :
    Calls Tryd.prog 39 #[.slice A n c, .func (.func 36) #[] ca] w fun e w' => e = .returned (.bool (anyB p n)) ∧ Below w.heap.size w w' := by
  have HI := Lib.hid (m_idx l ca A n c p w h hn hp)
  clear h hp
  cases ha : anyB p n with
  | true =>
    obtain ⟨q, hq⟩ := fi_some p n ha
    rw [hq] at HI
    have d : decide ((0 : Int) ≤ (q : Int)) = true := decide_eq_true (by omega)
    clear ha hq
    go_enter Tryd.func39, Tryd.ntmps39
    go_wp2_with (go_at_call 48; refine HI.out.mono ?_; rintro e w2 ⟨rfl, hb2⟩; have HB2 := Lib.hid hb2; clear hb2)
    go_ret
    exact ⟨by first | rfl | simp, HB2.out⟩
  | false =>
    rw [fi_none p n ha] at HI
    clear ha
    go_enter Tryd.func39, Tryd.ntmps39
    go_wp2_with (go_at_call 48; refine HI.out.mono ?_; rintro e w2 ⟨rfl, hb2⟩; have HB2 := Lib.hid hb2; clear hb2)
    go_ret
    exact ⟨by first | rfl | simp, HB2.out⟩

end Go.Proofs.YtahggnlmabdbbaaDoor.Di
