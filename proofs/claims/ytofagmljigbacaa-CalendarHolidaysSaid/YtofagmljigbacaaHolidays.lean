/- For every tape, CalendarHolidays returns true: a holiday more never makes a deadline earlier, without holidays time moves on by whole weeks, and a day is working as a whole or not at all. No condition. -/
import Derived.Test.YtofagmljigbacaaEnv
namespace Go.Proofs.Ytofagmljigbacaa.calendarHolidays
open Go.ChangeShapes Go.WideShapes Go.ChangeAt Go.RowKit
open Go.ChangeMaps (open_string shut_string)
open Go.Proofs.Ytofagmljigbacaa.Tp Go.Proofs.Ytofagmljigbacaa.Cal
set_option linter.unusedVariables false

set_option maxRecDepth 100000 in
set_option maxHeartbeats 1200000 in
theorem walk (a0 : Option Addr) (len0 cap0 : Nat) (z0 : List Int) (w : World) (w0 : IsRow .i64 w a0 len0 cap0 z0) :
    Calls Try.prog 7 #[.slice a0 len0 cap0] w fun e w' => e = .returned (.bool true) ∧ Below w.heap.size w w' := by
  have htp := tape_new w0
  have hmax := w0.at_.1
  unfold maxLen at hmax
  have HTP := Lib.hid htp
  have HAW := Lib.hid awake_any
  have hz := zero24
  clear w0 htp
  by_cases hlen : 200 < len0
  · go_enter Try.func7, Try.ntmps7
    go_wp2_with (go_at_call 8; refine (HAW.out _).mono ?_; rintro e w1 ⟨rfl, hb⟩; have HB := Lib.hid hb; clear hb)
    go_ret
    exact ⟨rfl, HB.out⟩
  · go_enter Try.func7, Try.ntmps7
    go_wp2_with fail
    refine (calendar_two w.heap.size _ HTP.out (by simp)).mono ?_
    rintro e w1 ⟨D, F, U, W, A, n, c, hs, ⟨rfl, hok, hgood, hD12, hfar, hg1, ht1⟩, hnc, hcm⟩
    unfold maxLen at hcm
    have hd1 := hok.d0
    have hfu := hok.f
    have hud := hok.t
    have HENV := Lib.hid (env_new (x := calC 0 0 0 0 none 0 0) (c := c) hok hfar hg1 ht1)
    have HGOOD := Lib.hid hgood
    have hgs : w.heap.size < w1.heap.size := by have := hg1.size; simp at this; omega
    clear hok hgood hfar hg1 ht1
    go_wp2_with (refine wpList_store_row rfl 24 _ _ rfl w1.heap.size (calC D F U W A n c) rfl rfl 24 (calC 0 0 0 0 none 0 0) (heap_alloc_new w1 _) (info24 _ _ _ _ _ _ _) rfl (calC_one _ _ _ _ _ _ _) ?_)
    generalize (w1.alloc (.cells (calC 0 0 0 0 none 0 0) 24)).setRow w1.heap.size (calC D F U W A n c) = w2 at *
    generalize w1.heap.size = g at *
    refine (next_any w.heap.size 200 _ HENV.out.tp (by omega) (by omega)).mono ?_
    rintro e wn ⟨r, hr0t, hr1t, rfl, hg, ht⟩
    obtain ⟨t, rfl⟩ : ∃ t : Nat, r = t := ⟨r.toNat, by omega⟩
    have HENVn := Lib.hid (HENV.out.tape hg ht)
    clear hg ht HENV
    have HENV := HENVn
    clear HENVn
    go_wp2_with fail
    refine (next_any w.heap.size 12 _ HENV.out.tp (by omega) (by omega)).mono ?_
    rintro e wn ⟨r, hr0N, hr1N, rfl, hg, ht⟩
    obtain ⟨N, rfl⟩ : ∃ N : Nat, r = N := ⟨r.toNat, by omega⟩
    have HENVn := Lib.hid (HENV.out.tape hg ht)
    clear hg ht HENV
    have HENV := HENVn
    clear HENVn
    obtain ⟨c0, c1, c2, c3, c4⟩ := calCells HENV.out.row
    obtain ⟨k1, hk1, hl1⟩ := exists_least HGOOD.out t N (by omega)
    have hgl : Go.Proofs.Ytofagmljigbacaa.Cal.Good D F U W hs.tail := ⟨HGOOD.out.d, HGOOD.out.f, HGOOD.out.t, HGOOD.out.w, HGOOD.out.b, fun x hx => HGOOD.out.h x (List.mem_of_mem_tail hx)⟩
    have hgp : Go.Proofs.Ytofagmljigbacaa.Cal.Good D F U W [] := ⟨HGOOD.out.d, HGOOD.out.f, HGOOD.out.t, HGOOD.out.w, HGOOD.out.b, by simp⟩
    obtain ⟨k2, hk2, hl2⟩ := exists_least hgl t N (by omega)
    obtain ⟨k3, hk3, hl3⟩ := exists_least hgp t N (by omega)
    have hl4 := least_shift (wk_week (F := F) (T := U) (W := W) (show 0 < D by omega)) hl3
    have h21 : k2 ≤ k1 := least_le (wk_sub (fun x hx => List.mem_of_mem_tail hx)) hl1 hl2
    have h32 : k3 ≤ k2 := least_le (wk_sub (fun x hx => by simp at hx)) hl2 hl3
    obtain ⟨u1, hu1⟩ : ∃ u, t + k1 = u := ⟨_, rfl⟩
    obtain ⟨u2, hu2⟩ : ∃ u, t + k2 = u := ⟨_, rfl⟩
    obtain ⟨u3, hu3⟩ : ∃ u, t + k3 = u := ⟨_, rfl⟩
    have ha1 : ∀ wx, CalOk wx D F U W A n hs → Calls Try.prog 19 #[.agg (calC D F U W A n c), .int .i64 (t : Int), .int .i64 (N : Int)] wx fun e w' => e = .returned (.tuple #[.int .i64 (u1 : Int), .int .i64 0]) ∧ Below wx.heap.size wx w' := by
      intro wx hx
      have := Add_any D F U W A n c hs t N k1 wx hx (by omega) (by omega) (by omega) hl1
      rwa [hu1] at this
    have ha2 : ∀ A' n' c' wx, CalOk wx D F U W A' n' hs.tail → Calls Try.prog 19 #[.agg (calC D F U W A' n' c'), .int .i64 (t : Int), .int .i64 (N : Int)] wx fun e w' => e = .returned (.tuple #[.int .i64 (u2 : Int), .int .i64 0]) ∧ Below wx.heap.size wx w' := by
      intro A' n' c' wx hx
      have := Add_any D F U W A' n' c' hs.tail t N k2 wx hx (by omega) (by omega) (by omega) hl2
      rwa [hu2] at this
    have ha3 : ∀ wx, CalOk wx D F U W none 0 [] → Calls Try.prog 19 #[.agg (calC D F U W none 0 0), .int .i64 (t : Int), .int .i64 (N : Int)] wx fun e w' => e = .returned (.tuple #[.int .i64 (u3 : Int), .int .i64 0]) ∧ Below wx.heap.size wx w' := by
      intro wx hx
      have := Add_any D F U W none 0 0 [] t N k3 wx hx (by omega) (by omega) (by omega) hl3
      rwa [hu3] at this
    have ha4 : ∀ wx, CalOk wx D F U W none 0 [] → Calls Try.prog 19 #[.agg (calC D F U W none 0 0), .int .i64 ((t : Int) + 7 * (D : Int)), .int .i64 (N : Int)] wx fun e w' => e = .returned (.tuple #[.int .i64 ((u3 : Int) + 7 * (D : Int)), .int .i64 0]) ∧ Below wx.heap.size wx w' := by
      intro wx hx
      have := Add_any D F U W none 0 0 [] (t + 7 * D) N k3 wx hx (by omega) (by omega) (by omega) hl4
      rwa [show ((t + 7 * D : Nat) : Int) = (t : Int) + 7 * (D : Int) from by omega, show ((t + 7 * D + k3 : Nat) : Int) = (u3 : Int) + 7 * (D : Int) from by omega] at this
    have HA1 := Lib.hid ha1
    have HA2 := Lib.hid ha2
    have HA3 := Lib.hid ha3
    have HA4 := Lib.hid ha4
    have hu1b : u1 ≤ 100000 := by omega
    have hu12 : u2 ≤ u1 := by omega
    have hu23 : u3 ≤ u2 := by omega
    have hd12 : decide (u1 < u2) = false := decide_eq_false (by omega)
    have hd23 : decide (u2 < u3) = false := decide_eq_false (by omega)
    clear ha1 ha2 ha3 ha4 hl1 hl2 hl3 hl4 hgl hgp hu1 hu2 hu3 h21 h32
    by_cases hn : n = 0
    · obtain rfl : hs = [] := List.eq_nil_of_length_eq_zero (by rw [HENV.out.ok.h.len, hn])
      subst hn
      go_wp2_with (first
        | (go_at_call 19; refine (HA1.out _ HENV.out.ok).mono ?_; clear HA1; rintro e wn ⟨rfl, hb⟩; have HENVn := Lib.hid (HENV.out.below hb); clear hb HENV; have HENV := HENVn; clear HENVn; clear c0 c1 c2 c3 c4; obtain ⟨c0, c1, c2, c3, c4⟩ := calCells HENV.out.row)
        | (refine wpList_store_row rfl 24 _ _ rfl wn.heap.size (calC D F U W A 0 c) rfl rfl 24 (calC 0 0 0 0 none 0 0) (heap_alloc_new wn _) (info24 _ _ _ _ _ _ _) rfl (calC_one _ _ _ _ _ _ _) ?_; have hcp := HENV.out.copy (calC 0 0 0 0 none 0 0); have hbk := HENV.out.block; have hgt := HENV.out.gt; generalize (wn.alloc (.cells (calC 0 0 0 0 none 0 0) 24)).setRow wn.heap.size (calC D F U W A 0 c) = wm at *; generalize wn.heap.size = g2 at *; obtain ⟨hL, hE⟩ := hcp; clear HENV; have HENV := Lib.hid hE; have HENL := Lib.hid hL; have HBK := Lib.hid hbk; clear hL hE hbk c0 c1 c2 c3 c4; obtain ⟨c0, c1, c2, c3, c4⟩ := calCells HENV.out.row; obtain ⟨d0, d1, d2, d3, d4⟩ := calCells HENL.out.row))
      refine (HA2.out _ _ _ _ HENL.out.ok).mono ?_
      rintro e wn ⟨rfl, hb⟩
      have HENVn := Lib.hid (HENV.out.below hb)
      clear hb HENV HENL HBK HA2 c0 c1 c2 c3 c4 d0 d1 d2 d3 d4
      have HENV := HENVn
      clear HENVn
      obtain ⟨c0, c1, c2, c3, c4⟩ := calCells HENV.out.row
      go_wp2_with (refine wpList_store_row rfl 24 _ _ rfl wn.heap.size (calC D F U W A 0 c) rfl rfl 24 (calC 0 0 0 0 none 0 0) (heap_alloc_new wn _) (info24 _ _ _ _ _ _ _) rfl (calC_one _ _ _ _ _ _ _) ?_; have hcp := HENV.out.copy (calC 0 0 0 0 none 0 0); have hbk := HENV.out.block; have hgt := HENV.out.gt; generalize (wn.alloc (.cells (calC 0 0 0 0 none 0 0) 24)).setRow wn.heap.size (calC D F U W A 0 c) = wm at *; generalize wn.heap.size = g3 at *; obtain ⟨hL, hE⟩ := hcp; clear HENV; have HENV := Lib.hid hE; have HENL := Lib.hid hL; have HBK := Lib.hid hbk; clear hL hE hbk c0 c1 c2 c3 c4; obtain ⟨c0, c1, c2, c3, c4⟩ := calCells HENV.out.row; obtain ⟨d0, d1, d2, d3, d4⟩ := calCells HENL.out.row; have fz := frozen_of_row _ g3 4 _ _ HENL.out.row)
      have hE3 := HENV.out.set (g' := g3) (by omega) (by omega) (fun h0 b' off' e => by have := HBK.out h0 b' off' e; omega) 4 (.slice none 0 0)
      have hP3 := HENV.out.plain (g' := g3) HENL.out.row (by omega)
      clear HENV HENL
      have HENV := Lib.hid hE3
      have HENP := Lib.hid hP3
      clear hE3 hP3 c0 c1 c2 c3 c4 d0 d1 d2 d3 d4 fz
      obtain ⟨c0, c1, c2, c3, c4⟩ := calCells HENV.out.row
      obtain ⟨d0, d1, d2, d3, d4⟩ := calCells HENP.out.row
      refine (HA3.out _ HENP.out.ok).mono ?_
      rintro e wn ⟨rfl, hb⟩
      have HENVn := Lib.hid (HENV.out.below hb)
      have HENPn := Lib.hid (HENP.out.below hb)
      clear hb HENV HENP c0 c1 c2 c3 c4 d0 d1 d2 d3 d4
      have HENV := HENVn
      have HENP := HENPn
      clear HENVn HENPn
      obtain ⟨c0, c1, c2, c3, c4⟩ := calCells HENV.out.row
      obtain ⟨d0, d1, d2, d3, d4⟩ := calCells HENP.out.row
      go_wp2_with (go_at_call 19; refine (HA4.out _ HENP.out.ok).mono ?_; rintro e wn ⟨rfl, hb⟩; have HENVn := Lib.hid (HENV.out.below hb); have HENPn := Lib.hid (HENP.out.below hb); clear hb HENV HENP c0 c1 c2 c3 c4 d0 d1 d2 d3 d4; have HENV := HENVn; have HENP := HENPn; clear HENVn HENPn; obtain ⟨c0, c1, c2, c3, c4⟩ := calCells HENV.out.row; obtain ⟨d0, d1, d2, d3, d4⟩ := calCells HENP.out.row)
      refine (next_any w.heap.size 20 _ HENV.out.tp (by omega) (by omega)).mono ?_
      rintro e wn ⟨r, hq0, hq1, rfl, hg, ht⟩
      obtain ⟨d, rfl⟩ : ∃ d : Nat, r = d := ⟨r.toNat, by omega⟩
      have HENVn := Lib.hid (HENV.out.tape hg ht)
      clear hg ht HENV HENP c0 c1 c2 c3 c4 d0 d1 d2 d3 d4
      have HENV := HENVn
      clear HENVn
      obtain ⟨c0, c1, c2, c3, c4⟩ := calCells HENV.out.row
      have hdD : d * D ≤ 19 * 12 := Nat.mul_le_mul (by omega) hD12
      have hdd1 : (d : Int) * (D : Int) ≤ 228 := by rw [← Int.natCast_mul]; omega
      have hdd0 : 0 ≤ (d : Int) * (D : Int) := by rw [← Int.natCast_mul]; omega
      have hwx : ∀ x : Nat, F ≤ x → x < U → ∀ wx, CalOk wx D F U W (A) (0) [] → Calls Try.prog 17 #[.agg (calC D F U W A 0 c), .int .i64 ((d : Int) * (D : Int) + (x : Int))] wx fun e w' => e = .returned (.bool (wk D F U W [] (d * D + F))) ∧ Below wx.heap.size wx w' := by
        intro x hx1 hx2 wx hx
        have := Working_any D F U W (A) (0) (c) [] (d * D + x) wx hx (by omega)
        rw [wk_day (y := F) hud hx1 hx2 (Nat.le_refl _) hfu] at this
        rwa [Int.natCast_add, Int.natCast_mul] at this
      have HWX := Lib.hid hwx
      clear hwx hdD
      generalize wk D F U W [] (d * D + F) = V at *
      go_wp2_with (go_at_call 17; refine (HWX.out F (Nat.le_refl _) hfu _ HENV.out.ok).mono ?_; rintro e wn ⟨rfl, hb⟩; have HENVn := Lib.hid (HENV.out.below hb); clear hb HENV; have HENV := HENVn; clear HENVn c0 c1 c2 c3 c4; obtain ⟨c0, c1, c2, c3, c4⟩ := calCells HENV.out.row)
      clear c0 c1 c2 c3 c4
      go_loopw [19] (fun i wr => ∃ x : Nat, F ≤ x ∧ x ≤ U ∧ i = .int .i64 x ∧ Env w g D F U W (A) (0) (c) [] wr) (fun i _ => U - (intOf i).toNat)
      case atStart => exact ⟨F, by omega, by omega, rfl, HENV.out⟩
      case round =>
        obtain ⟨x, hx1, hx2, rfl, henv⟩ := hrel
        clear HENV
        have HENV := Lib.hid henv
        clear henv
        obtain ⟨c0, c1, c2, c3, c4⟩ := calCells HENV.out.row
        by_cases hlt : x < U
        · have HX := Lib.hid (HWX.out x hx1 hlt)
          go_wp2_with (go_at_call 17; refine (HX.out _ HENV.out.ok).mono ?_; rintro e wn ⟨rfl, hb⟩; have HENVn := Lib.hid (HENV.out.below hb); clear hb HENV; have HENV := HENVn; clear HENVn c0 c1 c2 c3 c4; obtain ⟨c0, c1, c2, c3, c4⟩ := calCells HENV.out.row)
          exact ⟨⟨x + 1, by omega, by omega, by go_num, HENV.out⟩, by simp [intOf]; omega⟩
        · obtain rfl : x = U := by omega
          go_wp2_with (go_at_call 8; refine (HAW.out _).mono ?_; rintro e w9 ⟨rfl, hb⟩; have HB := Lib.hid hb; clear hb)
          go_ret
          exact ⟨rfl, HENV.out.bl.trans (HB.out.mono HENV.out.bl.size)⟩
    · have hn1 : 1 ≤ n := by omega
      obtain ⟨b, off, rfl, _, _⟩ := HENV.out.ok.h.mem (by omega)
      by_cases hc1 : c = 1
      · subst hc1
        obtain rfl : n = 1 := by omega
        go_wp2_with (first
          | (go_at_call 19; refine (HA1.out _ HENV.out.ok).mono ?_; clear HA1; rintro e wn ⟨rfl, hb⟩; have HENVn := Lib.hid (HENV.out.below hb); clear hb HENV; have HENV := HENVn; clear HENVn; clear c0 c1 c2 c3 c4; obtain ⟨c0, c1, c2, c3, c4⟩ := calCells HENV.out.row)
          | (refine wpList_store_row rfl 24 _ _ rfl wn.heap.size (calC D F U W (some ⟨b, off, none⟩) 1 1) rfl rfl 24 (calC 0 0 0 0 none 0 0) (heap_alloc_new wn _) (info24 _ _ _ _ _ _ _) rfl (calC_one _ _ _ _ _ _ _) ?_; have hcp := HENV.out.copy (calC 0 0 0 0 none 0 0); have hbk := HENV.out.block; have hgt := HENV.out.gt; generalize (wn.alloc (.cells (calC 0 0 0 0 none 0 0) 24)).setRow wn.heap.size (calC D F U W (some ⟨b, off, none⟩) 1 1) = wm at *; generalize wn.heap.size = g2 at *; obtain ⟨hL, hE⟩ := hcp; clear HENV; have HENV := Lib.hid hE; have HENL := Lib.hid hL; have HBK := Lib.hid hbk; clear hL hE hbk c0 c1 c2 c3 c4; obtain ⟨c0, c1, c2, c3, c4⟩ := calCells HENV.out.row; obtain ⟨d0, d1, d2, d3, d4⟩ := calCells HENL.out.row; have fz := frozen_of_row _ g2 4 _ _ HENL.out.row))
        have hE2 := HENV.out.set (g' := g2) (by omega) (by omega) (fun h0 b' off' e => by have := HBK.out h0 b' off' e; omega) 4 (.slice ((some ⟨b, off, none⟩)) (1 - 1) (1 - 1))
        have hL2 := HENV.out.less (g' := g2) (A' := (some ⟨b, off, none⟩)) HENL.out.row (by omega) (by omega) (fun b' off' e => by have := HBK.out (by omega) b' off' e; omega) (fun h1 b' off' e => by cases e; first | rfl | omega) (fun b' off' e => by cases e; exact HENV.out.far b _ rfl) (1 - 1)
        clear HENV HENL
        have HENV := Lib.hid hE2
        refine (HA2.out _ _ _ _ hL2.ok).mono ?_
        rintro e wn ⟨rfl, hb⟩
        have HENVn := Lib.hid (HENV.out.below hb)
        clear hb HENV hE2 hL2 HBK HA2 c0 c1 c2 c3 c4 d0 d1 d2 d3 d4
        have HENV := HENVn
        clear HENVn
        obtain ⟨c0, c1, c2, c3, c4⟩ := calCells HENV.out.row
        go_wp2_with (refine wpList_store_row rfl 24 _ _ rfl wn.heap.size (calC D F U W (some ⟨b, off, none⟩) 1 1) rfl rfl 24 (calC 0 0 0 0 none 0 0) (heap_alloc_new wn _) (info24 _ _ _ _ _ _ _) rfl (calC_one _ _ _ _ _ _ _) ?_; have hcp := HENV.out.copy (calC 0 0 0 0 none 0 0); have hbk := HENV.out.block; have hgt := HENV.out.gt; generalize (wn.alloc (.cells (calC 0 0 0 0 none 0 0) 24)).setRow wn.heap.size (calC D F U W (some ⟨b, off, none⟩) 1 1) = wm at *; generalize wn.heap.size = g3 at *; obtain ⟨hL, hE⟩ := hcp; clear HENV; have HENV := Lib.hid hE; have HENL := Lib.hid hL; have HBK := Lib.hid hbk; clear hL hE hbk c0 c1 c2 c3 c4; obtain ⟨c0, c1, c2, c3, c4⟩ := calCells HENV.out.row; obtain ⟨d0, d1, d2, d3, d4⟩ := calCells HENL.out.row; have fz := frozen_of_row _ g3 4 _ _ HENL.out.row)
        have hE3 := HENV.out.set (g' := g3) (by omega) (by omega) (fun h0 b' off' e => by have := HBK.out h0 b' off' e; omega) 4 (.slice none 0 0)
        have hP3 := HENV.out.plain (g' := g3) HENL.out.row (by omega)
        clear HENV HENL
        have HENV := Lib.hid hE3
        have HENP := Lib.hid hP3
        clear hE3 hP3 c0 c1 c2 c3 c4 d0 d1 d2 d3 d4 fz
        obtain ⟨c0, c1, c2, c3, c4⟩ := calCells HENV.out.row
        obtain ⟨d0, d1, d2, d3, d4⟩ := calCells HENP.out.row
        refine (HA3.out _ HENP.out.ok).mono ?_
        rintro e wn ⟨rfl, hb⟩
        have HENVn := Lib.hid (HENV.out.below hb)
        have HENPn := Lib.hid (HENP.out.below hb)
        clear hb HENV HENP c0 c1 c2 c3 c4 d0 d1 d2 d3 d4
        have HENV := HENVn
        have HENP := HENPn
        clear HENVn HENPn
        obtain ⟨c0, c1, c2, c3, c4⟩ := calCells HENV.out.row
        obtain ⟨d0, d1, d2, d3, d4⟩ := calCells HENP.out.row
        go_wp2_with (go_at_call 19; refine (HA4.out _ HENP.out.ok).mono ?_; rintro e wn ⟨rfl, hb⟩; have HENVn := Lib.hid (HENV.out.below hb); have HENPn := Lib.hid (HENP.out.below hb); clear hb HENV HENP c0 c1 c2 c3 c4 d0 d1 d2 d3 d4; have HENV := HENVn; have HENP := HENPn; clear HENVn HENPn; obtain ⟨c0, c1, c2, c3, c4⟩ := calCells HENV.out.row; obtain ⟨d0, d1, d2, d3, d4⟩ := calCells HENP.out.row)
        refine (next_any w.heap.size 20 _ HENV.out.tp (by omega) (by omega)).mono ?_
        rintro e wn ⟨r, hq0, hq1, rfl, hg, ht⟩
        obtain ⟨d, rfl⟩ : ∃ d : Nat, r = d := ⟨r.toNat, by omega⟩
        have HENVn := Lib.hid (HENV.out.tape hg ht)
        clear hg ht HENV HENP c0 c1 c2 c3 c4 d0 d1 d2 d3 d4
        have HENV := HENVn
        clear HENVn
        obtain ⟨c0, c1, c2, c3, c4⟩ := calCells HENV.out.row
        have hdD : d * D ≤ 19 * 12 := Nat.mul_le_mul (by omega) hD12
        have hdd1 : (d : Int) * (D : Int) ≤ 228 := by rw [← Int.natCast_mul]; omega
        have hdd0 : 0 ≤ (d : Int) * (D : Int) := by rw [← Int.natCast_mul]; omega
        have hwx : ∀ x : Nat, F ≤ x → x < U → ∀ wx, CalOk wx D F U W ((some ⟨b, off, none⟩)) (1) hs → Calls Try.prog 17 #[.agg (calC D F U W (some ⟨b, off, none⟩) 1 1), .int .i64 ((d : Int) * (D : Int) + (x : Int))] wx fun e w' => e = .returned (.bool (wk D F U W hs (d * D + F))) ∧ Below wx.heap.size wx w' := by
          intro x hx1 hx2 wx hx
          have := Working_any D F U W ((some ⟨b, off, none⟩)) (1) (1) hs (d * D + x) wx hx (by omega)
          rw [wk_day (y := F) hud hx1 hx2 (Nat.le_refl _) hfu] at this
          rwa [Int.natCast_add, Int.natCast_mul] at this
        have HWX := Lib.hid hwx
        clear hwx hdD
        generalize wk D F U W hs (d * D + F) = V at *
        go_wp2_with (go_at_call 17; refine (HWX.out F (Nat.le_refl _) hfu _ HENV.out.ok).mono ?_; rintro e wn ⟨rfl, hb⟩; have HENVn := Lib.hid (HENV.out.below hb); clear hb HENV; have HENV := HENVn; clear HENVn c0 c1 c2 c3 c4; obtain ⟨c0, c1, c2, c3, c4⟩ := calCells HENV.out.row)
        clear c0 c1 c2 c3 c4
        go_loopw [19] (fun i wr => ∃ x : Nat, F ≤ x ∧ x ≤ U ∧ i = .int .i64 x ∧ Env w g D F U W ((some ⟨b, off, none⟩)) (1) (1) hs wr) (fun i _ => U - (intOf i).toNat)
        case atStart => exact ⟨F, by omega, by omega, rfl, HENV.out⟩
        case round =>
          obtain ⟨x, hx1, hx2, rfl, henv⟩ := hrel
          clear HENV
          have HENV := Lib.hid henv
          clear henv
          obtain ⟨c0, c1, c2, c3, c4⟩ := calCells HENV.out.row
          by_cases hlt : x < U
          · have HX := Lib.hid (HWX.out x hx1 hlt)
            go_wp2_with (go_at_call 17; refine (HX.out _ HENV.out.ok).mono ?_; rintro e wn ⟨rfl, hb⟩; have HENVn := Lib.hid (HENV.out.below hb); clear hb HENV; have HENV := HENVn; clear HENVn c0 c1 c2 c3 c4; obtain ⟨c0, c1, c2, c3, c4⟩ := calCells HENV.out.row)
            exact ⟨⟨x + 1, by omega, by omega, by go_num, HENV.out⟩, by simp [intOf]; omega⟩
          · obtain rfl : x = U := by omega
            go_wp2_with (go_at_call 8; refine (HAW.out _).mono ?_; rintro e w9 ⟨rfl, hb⟩; have HB := Lib.hid hb; clear hb)
            go_ret
            exact ⟨rfl, HENV.out.bl.trans (HB.out.mono HENV.out.bl.size)⟩
      · go_wp2_with (first
          | (go_at_call 19; refine (HA1.out _ HENV.out.ok).mono ?_; clear HA1; rintro e wn ⟨rfl, hb⟩; have HENVn := Lib.hid (HENV.out.below hb); clear hb HENV; have HENV := HENVn; clear HENVn; clear c0 c1 c2 c3 c4; obtain ⟨c0, c1, c2, c3, c4⟩ := calCells HENV.out.row)
          | (refine wpList_store_row rfl 24 _ _ rfl wn.heap.size (calC D F U W (some ⟨b, off, none⟩) n c) rfl rfl 24 (calC 0 0 0 0 none 0 0) (heap_alloc_new wn _) (info24 _ _ _ _ _ _ _) rfl (calC_one _ _ _ _ _ _ _) ?_; have hcp := HENV.out.copy (calC 0 0 0 0 none 0 0); have hbk := HENV.out.block; have hgt := HENV.out.gt; generalize (wn.alloc (.cells (calC 0 0 0 0 none 0 0) 24)).setRow wn.heap.size (calC D F U W (some ⟨b, off, none⟩) n c) = wm at *; generalize wn.heap.size = g2 at *; obtain ⟨hL, hE⟩ := hcp; clear HENV; have HENV := Lib.hid hE; have HENL := Lib.hid hL; have HBK := Lib.hid hbk; clear hL hE hbk c0 c1 c2 c3 c4; obtain ⟨c0, c1, c2, c3, c4⟩ := calCells HENV.out.row; obtain ⟨d0, d1, d2, d3, d4⟩ := calCells HENL.out.row; have fz := frozen_of_row _ g2 4 _ _ HENL.out.row))
        have hE2 := HENV.out.set (g' := g2) (by omega) (by omega) (fun h0 b' off' e => by have := HBK.out h0 b' off' e; omega) 4 (.slice ((some ⟨b, off + 1, none⟩)) (n - 1) (c - 1))
        have hL2 := HENV.out.less (g' := g2) (A' := (some ⟨b, off + 1, none⟩)) HENL.out.row (by omega) (by omega) (fun b' off' e => by have := HBK.out (by omega) b' off' e; omega) (fun h1 b' off' e => by cases e; first | rfl | omega) (fun b' off' e => by cases e; exact HENV.out.far b _ rfl) (c - 1)
        clear HENV HENL
        have HENV := Lib.hid hE2
        refine (HA2.out _ _ _ _ hL2.ok).mono ?_
        rintro e wn ⟨rfl, hb⟩
        have HENVn := Lib.hid (HENV.out.below hb)
        clear hb HENV hE2 hL2 HBK HA2 c0 c1 c2 c3 c4 d0 d1 d2 d3 d4
        have HENV := HENVn
        clear HENVn
        obtain ⟨c0, c1, c2, c3, c4⟩ := calCells HENV.out.row
        go_wp2_with (refine wpList_store_row rfl 24 _ _ rfl wn.heap.size (calC D F U W (some ⟨b, off, none⟩) n c) rfl rfl 24 (calC 0 0 0 0 none 0 0) (heap_alloc_new wn _) (info24 _ _ _ _ _ _ _) rfl (calC_one _ _ _ _ _ _ _) ?_; have hcp := HENV.out.copy (calC 0 0 0 0 none 0 0); have hbk := HENV.out.block; have hgt := HENV.out.gt; generalize (wn.alloc (.cells (calC 0 0 0 0 none 0 0) 24)).setRow wn.heap.size (calC D F U W (some ⟨b, off, none⟩) n c) = wm at *; generalize wn.heap.size = g3 at *; obtain ⟨hL, hE⟩ := hcp; clear HENV; have HENV := Lib.hid hE; have HENL := Lib.hid hL; have HBK := Lib.hid hbk; clear hL hE hbk c0 c1 c2 c3 c4; obtain ⟨c0, c1, c2, c3, c4⟩ := calCells HENV.out.row; obtain ⟨d0, d1, d2, d3, d4⟩ := calCells HENL.out.row; have fz := frozen_of_row _ g3 4 _ _ HENL.out.row)
        have hE3 := HENV.out.set (g' := g3) (by omega) (by omega) (fun h0 b' off' e => by have := HBK.out h0 b' off' e; omega) 4 (.slice none 0 0)
        have hP3 := HENV.out.plain (g' := g3) HENL.out.row (by omega)
        clear HENV HENL
        have HENV := Lib.hid hE3
        have HENP := Lib.hid hP3
        clear hE3 hP3 c0 c1 c2 c3 c4 d0 d1 d2 d3 d4 fz
        obtain ⟨c0, c1, c2, c3, c4⟩ := calCells HENV.out.row
        obtain ⟨d0, d1, d2, d3, d4⟩ := calCells HENP.out.row
        refine (HA3.out _ HENP.out.ok).mono ?_
        rintro e wn ⟨rfl, hb⟩
        have HENVn := Lib.hid (HENV.out.below hb)
        have HENPn := Lib.hid (HENP.out.below hb)
        clear hb HENV HENP c0 c1 c2 c3 c4 d0 d1 d2 d3 d4
        have HENV := HENVn
        have HENP := HENPn
        clear HENVn HENPn
        obtain ⟨c0, c1, c2, c3, c4⟩ := calCells HENV.out.row
        obtain ⟨d0, d1, d2, d3, d4⟩ := calCells HENP.out.row
        go_wp2_with (go_at_call 19; refine (HA4.out _ HENP.out.ok).mono ?_; rintro e wn ⟨rfl, hb⟩; have HENVn := Lib.hid (HENV.out.below hb); have HENPn := Lib.hid (HENP.out.below hb); clear hb HENV HENP c0 c1 c2 c3 c4 d0 d1 d2 d3 d4; have HENV := HENVn; have HENP := HENPn; clear HENVn HENPn; obtain ⟨c0, c1, c2, c3, c4⟩ := calCells HENV.out.row; obtain ⟨d0, d1, d2, d3, d4⟩ := calCells HENP.out.row)
        refine (next_any w.heap.size 20 _ HENV.out.tp (by omega) (by omega)).mono ?_
        rintro e wn ⟨r, hq0, hq1, rfl, hg, ht⟩
        obtain ⟨d, rfl⟩ : ∃ d : Nat, r = d := ⟨r.toNat, by omega⟩
        have HENVn := Lib.hid (HENV.out.tape hg ht)
        clear hg ht HENV HENP c0 c1 c2 c3 c4 d0 d1 d2 d3 d4
        have HENV := HENVn
        clear HENVn
        obtain ⟨c0, c1, c2, c3, c4⟩ := calCells HENV.out.row
        have hdD : d * D ≤ 19 * 12 := Nat.mul_le_mul (by omega) hD12
        have hdd1 : (d : Int) * (D : Int) ≤ 228 := by rw [← Int.natCast_mul]; omega
        have hdd0 : 0 ≤ (d : Int) * (D : Int) := by rw [← Int.natCast_mul]; omega
        have hwx : ∀ x : Nat, F ≤ x → x < U → ∀ wx, CalOk wx D F U W ((some ⟨b, off, none⟩)) (n) hs → Calls Try.prog 17 #[.agg (calC D F U W (some ⟨b, off, none⟩) n c), .int .i64 ((d : Int) * (D : Int) + (x : Int))] wx fun e w' => e = .returned (.bool (wk D F U W hs (d * D + F))) ∧ Below wx.heap.size wx w' := by
          intro x hx1 hx2 wx hx
          have := Working_any D F U W ((some ⟨b, off, none⟩)) (n) (c) hs (d * D + x) wx hx (by omega)
          rw [wk_day (y := F) hud hx1 hx2 (Nat.le_refl _) hfu] at this
          rwa [Int.natCast_add, Int.natCast_mul] at this
        have HWX := Lib.hid hwx
        clear hwx hdD
        generalize wk D F U W hs (d * D + F) = V at *
        go_wp2_with (go_at_call 17; refine (HWX.out F (Nat.le_refl _) hfu _ HENV.out.ok).mono ?_; rintro e wn ⟨rfl, hb⟩; have HENVn := Lib.hid (HENV.out.below hb); clear hb HENV; have HENV := HENVn; clear HENVn c0 c1 c2 c3 c4; obtain ⟨c0, c1, c2, c3, c4⟩ := calCells HENV.out.row)
        clear c0 c1 c2 c3 c4
        go_loopw [19] (fun i wr => ∃ x : Nat, F ≤ x ∧ x ≤ U ∧ i = .int .i64 x ∧ Env w g D F U W ((some ⟨b, off, none⟩)) (n) (c) hs wr) (fun i _ => U - (intOf i).toNat)
        case atStart => exact ⟨F, by omega, by omega, rfl, HENV.out⟩
        case round =>
          obtain ⟨x, hx1, hx2, rfl, henv⟩ := hrel
          clear HENV
          have HENV := Lib.hid henv
          clear henv
          obtain ⟨c0, c1, c2, c3, c4⟩ := calCells HENV.out.row
          by_cases hlt : x < U
          · have HX := Lib.hid (HWX.out x hx1 hlt)
            go_wp2_with (go_at_call 17; refine (HX.out _ HENV.out.ok).mono ?_; rintro e wn ⟨rfl, hb⟩; have HENVn := Lib.hid (HENV.out.below hb); clear hb HENV; have HENV := HENVn; clear HENVn c0 c1 c2 c3 c4; obtain ⟨c0, c1, c2, c3, c4⟩ := calCells HENV.out.row)
            exact ⟨⟨x + 1, by omega, by omega, by go_num, HENV.out⟩, by simp [intOf]; omega⟩
          · obtain rfl : x = U := by omega
            go_wp2_with (go_at_call 8; refine (HAW.out _).mono ?_; rintro e w9 ⟨rfl, hb⟩; have HB := Lib.hid hb; clear hb)
            go_ret
            exact ⟨rfl, HENV.out.bl.trans (HB.out.mono HENV.out.bl.size)⟩

/-! ### THE ROW's STEP: WRITTEN OUT: LEAVE IT -/
set_option maxRecDepth 100000 in
theorem lifted (os : Os) (started : os.Started) (H : Type) (enc : TypeId × Value → H) :
    ReturnsInHanded {} Try.checked os 7 .any (Rows.calendarHolidaysSpec.pre6 enc Try.prog Try.f7 Rows.calendarHolidaysRow.domain false) (Rows.calendarHolidaysSpec.post enc Try.prog Try.f7 false true false false) := by
  refine returnsInHanded_of_change (C := Try.checked) own started (by kernel_rfl) Try.func7
    (ChangeSpec.witness6 (enc := enc) (C := Try.checked) false ⟨#[], #[.slice none 0 0], []⟩ 8 (by kernel_rfl) (by kernel_rfl) (by kernel_rfl) (by kernel_rfl)) ?_
  intro W base args ds gs before hval0 hW hcnd _
  have hval : ∀ (j : Nat) t v, Try.f7.params[j]? = some t → args[j]? = some v → Value.okWide Try.prog W .any base t v := hval0
  have hW' := hW
  obtain ⟨p, q, hA0, hV, rfl, hfz, hnd⟩ := hW
  have hA : DataW.TrodAll enc Try.prog W 0 (fun _ => true) true Try.f7.params.toList args.toList ds p := hA0
  rw [Try.params7] at hA hval
  obtain ⟨v0, vs0, d0, ds0, p0, q0, hargs, rfl, rfl, h0, r0⟩ := trodAll_cons hA
  obtain ⟨rfl, rfl, rfl⟩ := trodAll_nil r0
  obtain rfl : args = #[v0] := by cases args; simp_all
  obtain ⟨rfl, rfl⟩ := trodVars_none hV
  obtain ⟨a0, len0, cap0, rfl⟩ := okWide_slice Try.underlying22 (hval 0 22 v0 rfl rfl)
  have k0 := h0
  have lt0 : ∀ x ∈ p0, x.block < W.heap.size := by obtain ⟨m, hm⟩ := k0; exact DataW.trod_lt m _ _ _ hm
  obtain ⟨z0, w0⟩ : ∃ zs, IsRow .i64 W a0 len0 cap0 zs := by
    obtain ⟨fuel, hf⟩ := h0
    rcases open_ints Try.underlying22 Try.underlying3 (by kernel_rfl) hf with ⟨hcs, _⟩ | ⟨x, l, c, zs, hcs, _, hl, hm, hz, _, hcell, hwz⟩
    · simp [Value.cells] at hcs
      obtain ⟨rfl, rfl, rfl⟩ := hcs
      exact ⟨[], .inl ⟨rfl, rfl, rfl, rfl⟩⟩
    · simp [Value.cells] at hcs
      obtain ⟨rfl, rfl, rfl⟩ := hcs
      exact ⟨zs, .inr ⟨_, rfl, hl, hm, by simpa using hz, hcell, hwz⟩⟩
  clear hA0 hval0
  refine (walk a0 len0 cap0 z0 W w0).mono fun e W' ⟨he, bel⟩ => ?_
  subst he
  exact ⟨_, rfl, _, _, _, [], _, [], hW', trodAll_mk1 (shut_bool Try.underlying4 _), (trodAll_cons_mk (Below.trod laidOut (by kernel_rfl) (of_decide_eq_true (by kernel_rfl)) k0 bel lt0) trodAll_mk0), rfl, bel.frame _, fun h => by cases h⟩

theorem over : Rows.calendarHolidaysRow.holds Try.pinned (OpenSpec.ofChange Rows.calendarHolidaysSpec) :=
  OpenClaim.holds_of_wide 7 Try.f7 rfl rfl rfl rfl rfl rfl rfl ⟨rfl, rfl, rfl, rfl, rfl⟩ rfl rfl rfl rfl rfl (by kernel_rfl) Try.func7 (by kernel_rfl)
    (of_decide_eq_true (by kernel_rfl)) (by unfold Func.isWrapper; first | (rw [if_pos (by decide +kernel)]; kernel_rfl) | (rw [if_neg (by decide +kernel)]; exact ⟨rfl, rfl⟩))
    (fun os started H enc _ => lifted os started H enc)

/-- ████ THE STATEMENT ████ -/
theorem proved : Rows.CalendarHolidaysSaid := over
#print axioms proved
end Go.Proofs.Ytofagmljigbacaa.calendarHolidays
