/- For every tape, CalendarParts returns true: adding in two parts is adding at once, and counting in two parts is counting at once. No condition. -/
import Derived.Test.YtofagmljigbacaaFrame
namespace Go.Proofs.Ytofagmljigbacaa.calendarParts
open Go.ChangeShapes Go.WideShapes Go.ChangeAt Go.RowKit
open Go.ChangeMaps (open_string shut_string)
open Go.Proofs.Ytofagmljigbacaa.Tp Go.Proofs.Ytofagmljigbacaa.Cal
set_option linter.unusedVariables false

set_option maxRecDepth 100000 in
set_option maxHeartbeats 1200000 in
theorem walk (a0 : Option Addr) (len0 cap0 : Nat) (z0 : List Int) (w : World) (w0 : IsRow .i64 w a0 len0 cap0 z0) :
    Calls Try.prog 5 #[.slice a0 len0 cap0] w fun e w' => e = .returned (.bool true) ∧ Below w.heap.size w w' := by
  have htp := tape_new w0
  have hmax := w0.at_.1
  unfold maxLen at hmax
  have HTP := Lib.hid htp
  have HAW := Lib.hid awake_any
  have hz := zero24
  clear w0 htp
  by_cases hlen : 200 < len0
  · go_enter Try.func5, Try.ntmps5
    go_wp2_with (go_at_call 8; refine (HAW.out _).mono ?_; rintro e w1 ⟨rfl, hb⟩; have HB := Lib.hid hb; clear hb)
    go_ret
    exact ⟨rfl, HB.out⟩
  · go_enter Try.func5, Try.ntmps5
    go_wp2_with fail
    refine (calendar_any w.heap.size _ HTP.out (by simp)).mono ?_
    rintro e w1 ⟨D, F, U, W, A, n, c, hs, rfl, hok, hgood, hD12, hfar, hg1, ht1⟩
    have hd1 := hok.d0
    have hfu := hok.f
    have hud := hok.t
    have HENV := Lib.hid (env_new (x := calC 0 0 0 0 none 0 0) (c := c) hok hfar hg1 ht1)
    have HGOOD := Lib.hid hgood
    have hgs : w.heap.size < w1.heap.size := by have := hg1.size; simp at this; omega
    clear hok hgood hfar hg1 ht1
    go_wp2_with (refine wpList_store_row rfl 24 _ _ rfl w1.heap.size (calC D F U W A n c) rfl rfl 24 (calC 0 0 0 0 none 0 0) (heap_alloc_new w1 _) (info24 _ _ _ _ _ _ _) rfl (calC_one _ _ _ _ _ _ _) ?_)
    generalize (w1.alloc (.cells (calC 0 0 0 0 none 0 0) 24)).setRow w1.heap.size (calC D F U W A n c) = w2 at *
    generalize w1.heap.size = g at *
    refine (next_any w.heap.size 200 _ HENV.out.tp (by omega) (by omega)).mono ?_
    rintro e wn ⟨r, hr0t, hr1t, rfl, hg, ht⟩
    obtain ⟨t, rfl⟩ : ∃ t : Nat, r = t := ⟨r.toNat, by omega⟩
    have HENVn := Lib.hid (HENV.out.tape hg ht)
    clear hg ht HENV
    have HENV := HENVn
    clear HENVn
    go_wp2_with fail
    refine (next_any w.heap.size 8 _ HENV.out.tp (by omega) (by omega)).mono ?_
    rintro e wn ⟨r, hr0a, hr1a, rfl, hg, ht⟩
    obtain ⟨a, rfl⟩ : ∃ a : Nat, r = a := ⟨r.toNat, by omega⟩
    have HENVn := Lib.hid (HENV.out.tape hg ht)
    clear hg ht HENV
    have HENV := HENVn
    clear HENVn
    go_wp2_with fail
    refine (next_any w.heap.size 8 _ HENV.out.tp (by omega) (by omega)).mono ?_
    rintro e wn ⟨r, hr0b, hr1b, rfl, hg, ht⟩
    obtain ⟨b, rfl⟩ : ∃ b : Nat, r = b := ⟨r.toNat, by omega⟩
    have HENVn := Lib.hid (HENV.out.tape hg ht)
    clear hg ht HENV
    have HENV := HENVn
    clear HENVn
    obtain ⟨c0, c1, c2, c3, c4⟩ := calCells HENV.out.row
    obtain ⟨i, hi, hl1⟩ := exists_least HGOOD.out t a (by omega)
    obtain ⟨j, hj, hl2⟩ := exists_least HGOOD.out (t + i) b (by omega)
    have hl3 := least_parts hl1 hl2
    obtain ⟨u, hu⟩ : ∃ u, t + i = u := ⟨_, rfl⟩
    obtain ⟨v, hv⟩ : ∃ v, u + j = v := ⟨_, rfl⟩
    have ha1 : ∀ wx, CalOk wx D F U W A n hs → Calls Try.prog 19 #[.agg (calC D F U W A n c), .int .i64 (t : Int), .int .i64 (a : Int)] wx fun e w' => e = .returned (.tuple #[.int .i64 (u : Int), .int .i64 0]) ∧ Below wx.heap.size wx w' := by
      intro wx hx
      have := Add_any D F U W A n c hs t a i wx hx (by omega) (by omega) (by omega) hl1
      rwa [hu] at this
    have ha2 : ∀ wx, CalOk wx D F U W A n hs → Calls Try.prog 19 #[.agg (calC D F U W A n c), .int .i64 (u : Int), .int .i64 (b : Int)] wx fun e w' => e = .returned (.tuple #[.int .i64 (v : Int), .int .i64 0]) ∧ Below wx.heap.size wx w' := by
      intro wx hx
      rw [hu] at hl2
      have := Add_any D F U W A n c hs u b j wx hx (by omega) (by omega) (by omega) hl2
      rwa [hv] at this
    have ha3 : ∀ wx, CalOk wx D F U W A n hs → Calls Try.prog 19 #[.agg (calC D F U W A n c), .int .i64 (t : Int), .int .i64 ((a : Int) + (b : Int))] wx fun e w' => e = .returned (.tuple #[.int .i64 (v : Int), .int .i64 0]) ∧ Below wx.heap.size wx w' := by
      intro wx hx
      have := Add_any D F U W A n c hs t (a + b) (i + j) wx hx (by omega) (by omega) (by omega) hl3
      rwa [show t + (i + j) = v from by omega, Int.natCast_add] at this
    have HA1 := Lib.hid ha1
    have HA2 := Lib.hid ha2
    have HA3 := Lib.hid ha3
    clear ha1 ha2 ha3 hl1 hl2 hl3 hu hv
    go_wp2_with (first
      | (go_at_call 19; refine (HA1.out _ HENV.out.ok).mono ?_; clear HA1; rintro e wn ⟨rfl, hb⟩; have HENVn := Lib.hid (HENV.out.below hb); clear hb HENV; have HENV := HENVn; clear HENVn; clear c0 c1 c2 c3 c4; obtain ⟨c0, c1, c2, c3, c4⟩ := calCells HENV.out.row)
      | (go_at_call 19; refine (HA2.out _ HENV.out.ok).mono ?_; clear HA2; rintro e wn ⟨rfl, hb⟩; have HENVn := Lib.hid (HENV.out.below hb); clear hb HENV; have HENV := HENVn; clear HENVn; clear c0 c1 c2 c3 c4; obtain ⟨c0, c1, c2, c3, c4⟩ := calCells HENV.out.row)
      | (go_at_call 19; refine (HA3.out _ HENV.out.ok).mono ?_; clear HA3; rintro e wn ⟨rfl, hb⟩; have HENVn := Lib.hid (HENV.out.below hb); clear hb HENV; have HENV := HENVn; clear HENVn; clear c0 c1 c2 c3 c4; obtain ⟨c0, c1, c2, c3, c4⟩ := calCells HENV.out.row))
    refine (next_any w.heap.size 60 _ HENV.out.tp (by omega) (by omega)).mono ?_
    rintro e wn ⟨r, hx0, hx1, rfl, hg, ht⟩
    obtain ⟨x, rfl⟩ : ∃ x : Nat, r = x := ⟨r.toNat, by omega⟩
    have HENVn := Lib.hid (HENV.out.tape hg ht)
    clear hg ht HENV
    have HENV := HENVn
    clear HENVn c0 c1 c2 c3 c4
    go_wp2_with fail
    refine (next_any w.heap.size 60 _ HENV.out.tp (by omega) (by omega)).mono ?_
    rintro e wn ⟨r, hy0, hy1, rfl, hg, ht⟩
    obtain ⟨y, rfl⟩ : ∃ y : Nat, r = y := ⟨r.toNat, by omega⟩
    have HENVn := Lib.hid (HENV.out.tape hg ht)
    clear hg ht HENV
    have HENV := HENVn
    clear HENVn
    obtain ⟨c0, c1, c2, c3, c4⟩ := calCells HENV.out.row
    have hb1 : ∀ wx, CalOk wx D F U W A n hs → Calls Try.prog 15 #[.agg (calC D F U W A n c), .int .i64 (t : Int), .int .i64 ((t : Int) + (x : Int))] wx fun e w' => e = .returned (.tuple #[.int .i64 (cw (wk D F U W hs) t x : Nat), .int .i64 0]) ∧ Below wx.heap.size wx w' := by
      intro wx hx
      have := Between_any D F U W A n c hs t x wx hx (by omega) (by omega)
      rwa [Int.natCast_add] at this
    have hb2 : ∀ wx, CalOk wx D F U W A n hs → Calls Try.prog 15 #[.agg (calC D F U W A n c), .int .i64 ((t : Int) + (x : Int)), .int .i64 ((t : Int) + (x : Int) + (y : Int))] wx fun e w' => e = .returned (.tuple #[.int .i64 (cw (wk D F U W hs) (t + x) y : Nat), .int .i64 0]) ∧ Below wx.heap.size wx w' := by
      intro wx hx
      have := Between_any D F U W A n c hs (t + x) y wx hx (by omega) (by omega)
      rwa [Int.natCast_add (t + x) y, Int.natCast_add t x] at this
    have hb3 : ∀ wx, CalOk wx D F U W A n hs → Calls Try.prog 15 #[.agg (calC D F U W A n c), .int .i64 (t : Int), .int .i64 ((t : Int) + (x : Int) + (y : Int))] wx fun e w' => e = .returned (.tuple #[.int .i64 ((cw (wk D F U W hs) t x : Nat) + (cw (wk D F U W hs) (t + x) y : Nat) : Int), .int .i64 0]) ∧ Below wx.heap.size wx w' := by
      intro wx hx
      have := Between_any D F U W A n c hs t (x + y) wx hx (by omega) (by omega)
      rwa [cw_add, Int.natCast_add (cw (wk D F U W hs) t x), show ((t + (x + y) : Nat) : Int) = (t : Int) + (x : Int) + (y : Int) from by omega] at this
    have p1 := cw_le (wk D F U W hs) t x
    have p2 := cw_le (wk D F U W hs) (t + x) y
    generalize cw (wk D F U W hs) t x = P at *
    generalize cw (wk D F U W hs) (t + x) y = Q at *
    have HB1 := Lib.hid hb1
    have HB2 := Lib.hid hb2
    have HB3 := Lib.hid hb3
    clear hb1 hb2 hb3
    go_wp2_with (first
      | (go_at_call 15; refine (HB1.out _ HENV.out.ok).mono ?_; clear HB1; rintro e wn ⟨rfl, hb⟩; have HENVn := Lib.hid (HENV.out.below hb); clear hb HENV; have HENV := HENVn; clear HENVn; clear c0 c1 c2 c3 c4; obtain ⟨c0, c1, c2, c3, c4⟩ := calCells HENV.out.row)
      | (go_at_call 15; refine (HB2.out _ HENV.out.ok).mono ?_; clear HB2; rintro e wn ⟨rfl, hb⟩; have HENVn := Lib.hid (HENV.out.below hb); clear hb HENV; have HENV := HENVn; clear HENVn; clear c0 c1 c2 c3 c4; obtain ⟨c0, c1, c2, c3, c4⟩ := calCells HENV.out.row)
      | (go_at_call 15; refine (HB3.out _ HENV.out.ok).mono ?_; clear HB3; rintro e wn ⟨rfl, hb⟩; have HENVn := Lib.hid (HENV.out.below hb); clear hb HENV; have HENV := HENVn; clear HENVn; clear c0 c1 c2 c3 c4; obtain ⟨c0, c1, c2, c3, c4⟩ := calCells HENV.out.row)
      | (go_at_call 8; refine (HAW.out _).mono ?_; rintro e w9 ⟨rfl, hb⟩; have HB := Lib.hid hb; clear hb))
    go_ret
    exact ⟨rfl, HENV.out.bl.trans (HB.out.mono HENV.out.bl.size)⟩

/-! ### THE ROW's STEP: WRITTEN OUT: LEAVE IT -/
set_option maxRecDepth 100000 in
theorem lifted (os : Os) (started : os.Started) (H : Type) (enc : TypeId × Value → H) :
    ReturnsInHanded {} Try.checked os 5 .any (Rows.calendarPartsSpec.pre6 enc Try.prog Try.f5 Rows.calendarPartsRow.domain false) (Rows.calendarPartsSpec.post enc Try.prog Try.f5 false true false false) := by
  refine returnsInHanded_of_change (C := Try.checked) own started (by kernel_rfl) Try.func5
    (ChangeSpec.witness6 (enc := enc) (C := Try.checked) false ⟨#[], #[.slice none 0 0], []⟩ 8 (by kernel_rfl) (by kernel_rfl) (by kernel_rfl) (by kernel_rfl)) ?_
  intro W base args ds gs before hval0 hW hcnd _
  have hval : ∀ (j : Nat) t v, Try.f5.params[j]? = some t → args[j]? = some v → Value.okWide Try.prog W .any base t v := hval0
  have hW' := hW
  obtain ⟨p, q, hA0, hV, rfl, hfz, hnd⟩ := hW
  have hA : DataW.TrodAll enc Try.prog W 0 (fun _ => true) true Try.f5.params.toList args.toList ds p := hA0
  rw [Try.params5] at hA hval
  obtain ⟨v0, vs0, d0, ds0, p0, q0, hargs, rfl, rfl, h0, r0⟩ := trodAll_cons hA
  obtain ⟨rfl, rfl, rfl⟩ := trodAll_nil r0
  obtain rfl : args = #[v0] := by cases args; simp_all
  obtain ⟨rfl, rfl⟩ := trodVars_none hV
  obtain ⟨a0, len0, cap0, rfl⟩ := okWide_slice Try.underlying22 (hval 0 22 v0 rfl rfl)
  have k0 := h0
  have lt0 : ∀ x ∈ p0, x.block < W.heap.size := by obtain ⟨m, hm⟩ := k0; exact DataW.trod_lt m _ _ _ hm
  obtain ⟨z0, w0⟩ : ∃ zs, IsRow .i64 W a0 len0 cap0 zs := by
    obtain ⟨fuel, hf⟩ := h0
    rcases open_ints Try.underlying22 Try.underlying3 (by kernel_rfl) hf with ⟨hcs, _⟩ | ⟨x, l, c, zs, hcs, _, hl, hm, hz, _, hcell, hwz⟩
    · simp [Value.cells] at hcs
      obtain ⟨rfl, rfl, rfl⟩ := hcs
      exact ⟨[], .inl ⟨rfl, rfl, rfl, rfl⟩⟩
    · simp [Value.cells] at hcs
      obtain ⟨rfl, rfl, rfl⟩ := hcs
      exact ⟨zs, .inr ⟨_, rfl, hl, hm, by simpa using hz, hcell, hwz⟩⟩
  clear hA0 hval0
  refine (walk a0 len0 cap0 z0 W w0).mono fun e W' ⟨he, bel⟩ => ?_
  subst he
  exact ⟨_, rfl, _, _, _, [], _, [], hW', trodAll_mk1 (shut_bool Try.underlying4 _), (trodAll_cons_mk (Below.trod laidOut (by kernel_rfl) (of_decide_eq_true (by kernel_rfl)) k0 bel lt0) trodAll_mk0), rfl, bel.frame _, fun h => by cases h⟩

theorem over : Rows.calendarPartsRow.holds Try.pinned (OpenSpec.ofChange Rows.calendarPartsSpec) :=
  OpenClaim.holds_of_wide 5 Try.f5 rfl rfl rfl rfl rfl rfl rfl ⟨rfl, rfl, rfl, rfl, rfl⟩ rfl rfl rfl rfl rfl (by kernel_rfl) Try.func5 (by kernel_rfl)
    (of_decide_eq_true (by kernel_rfl)) (by unfold Func.isWrapper; first | (rw [if_pos (by decide +kernel)]; kernel_rfl) | (rw [if_neg (by decide +kernel)]; exact ⟨rfl, rfl⟩))
    (fun os started H enc _ => lifted os started H enc)

/-- ████ THE STATEMENT ████ -/
theorem proved : Rows.CalendarPartsSaid := over
#print axioms proved
end Go.Proofs.Ytofagmljigbacaa.calendarParts
