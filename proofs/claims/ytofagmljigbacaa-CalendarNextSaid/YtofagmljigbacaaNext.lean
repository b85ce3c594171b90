/- For every tape, CalendarNext returns true: the next working tick is working, none is skipped, and it is a tick ahead of the end of one working tick. No condition. -/
import Derived.Test.YtofagmljigbacaaFrame
namespace Go.Proofs.Ytofagmljigbacaa.calendarNext
open Go.ChangeShapes Go.WideShapes Go.ChangeAt Go.RowKit
open Go.ChangeMaps (open_string shut_string)
open Go.Proofs.Ytofagmljigbacaa.Tp Go.Proofs.Ytofagmljigbacaa.Cal
set_option linter.unusedVariables false

set_option maxRecDepth 100000 in
set_option maxHeartbeats 1200000 in
theorem walk (a0 : Option Addr) (len0 cap0 : Nat) (z0 : List Int) (w : World) (w0 : IsRow .i64 w a0 len0 cap0 z0) :
    Calls Try.prog 6 #[.slice a0 len0 cap0] w fun e w' => e = .returned (.bool true) ∧ Below w.heap.size w w' := by
  have htp := tape_new w0
  have hmax := w0.at_.1
  unfold maxLen at hmax
  have HTP := Lib.hid htp
  have HAW := Lib.hid awake_any
  have hz := zero24
  clear w0 htp
  by_cases hlen : 200 < len0
  · go_enter Try.func6, Try.ntmps6
    go_wp2_with (go_at_call 8; refine (HAW.out _).mono ?_; rintro e w1 ⟨rfl, hb⟩; have HB := Lib.hid hb; clear hb)
    go_ret
    exact ⟨rfl, HB.out⟩
  · go_enter Try.func6, Try.ntmps6
    go_wp2_with fail
    refine (calendar_any w.heap.size _ HTP.out (by simp)).mono ?_
    rintro e w1 ⟨D, F, U, W, A, n, c, hs, rfl, hok, hgood, hD12, hfar, hg1, ht1⟩
    have hd1 := hok.d0
    have hfu := hok.f
    have hud := hok.t
    have HENV := Lib.hid (env_new (x := calC 0 0 0 0 none 0 0) (c := c) hok hfar hg1 ht1)
    have HGOOD := Lib.hid hgood
    have hgs : w.heap.size < w1.heap.size := by have := hg1.size; simp at this; omega
    clear hok hgood hfar hg1 ht1
    go_wp2_with (refine wpList_store_row rfl 24 _ _ rfl w1.heap.size (calC D F U W A n c) rfl rfl 24 (calC 0 0 0 0 none 0 0) (heap_alloc_new w1 _) (info24 _ _ _ _ _ _ _) rfl (calC_one _ _ _ _ _ _ _) ?_)
    generalize (w1.alloc (.cells (calC 0 0 0 0 none 0 0) 24)).setRow w1.heap.size (calC D F U W A n c) = w2 at *
    generalize w1.heap.size = g at *
    refine (next_any w.heap.size 200 _ HENV.out.tp (by omega) (by omega)).mono ?_
    rintro e wn ⟨r, hr0t, hr1t, rfl, hg, ht⟩
    obtain ⟨t, rfl⟩ : ∃ t : Nat, r = t := ⟨r.toNat, by omega⟩
    have HENVn := Lib.hid (HENV.out.tape hg ht)
    clear hg ht HENV
    have HENV := HENVn
    clear HENVn
    obtain ⟨c0, c1, c2, c3, c4⟩ := calCells HENV.out.row
    obtain ⟨k', hk', hl'⟩ := exists_least HGOOD.out t 1 (by omega)
    obtain ⟨k, rfl, hck, hfk⟩ := least_pred hl' (by omega)
    obtain ⟨u, hu⟩ : ∃ u, t + k = u := ⟨_, rfl⟩
    have hut : t ≤ u := by omega
    have hn1 : ∀ wx, CalOk wx D F U W A n hs → Calls Try.prog 21 #[.agg (calC D F U W A n c), .int .i64 (t : Int)] wx fun e w' => e = .returned (.tuple #[.int .i64 (u : Int), .int .i64 0]) ∧ Below wx.heap.size wx w' := by
      intro wx hx
      have := Next_any D F U W A n c hs t k wx hx (by omega) (by omega) hl'
      rwa [hu] at this
    have hw1 : ∀ wx, CalOk wx D F U W A n hs → Calls Try.prog 17 #[.agg (calC D F U W A n c), .int .i64 (u : Int)] wx fun e w' => e = .returned (.bool true) ∧ Below wx.heap.size wx w' := by
      intro wx hx
      have := Working_any D F U W A n c hs (t + k) wx hx (by omega)
      rwa [hfk, hu] at this
    have hno : ∀ x, t ≤ x → x < u → ∀ wx, CalOk wx D F U W A n hs → Calls Try.prog 17 #[.agg (calC D F U W A n c), .int .i64 (x : Int)] wx fun e w' => e = .returned (.bool false) ∧ Below wx.heap.size wx w' := by
      intro x hx1 hx2 wx hx
      have := Working_any D F U W A n c hs x wx hx (by omega)
      have hf : wk D F U W hs x = false := by
        obtain ⟨d, rfl⟩ := Nat.le.dest hx1
        have h1 := hl'.2 (d + 1) (by omega)
        simp only [cw] at h1
        cases hq : wk D F U W hs (t + d) with
        | false => rfl
        | true => rw [hq] at h1; simp at h1
      rwa [hf] at this
    have ha1 : ∀ wx, CalOk wx D F U W A n hs → Calls Try.prog 19 #[.agg (calC D F U W A n c), .int .i64 (t : Int), .int .i64 1] wx fun e w' => e = .returned (.tuple #[.int .i64 ((u : Int) + 1), .int .i64 0]) ∧ Below wx.heap.size wx w' := by
      intro wx hx
      have := Add_any D F U W A n c hs t 1 (k + 1) wx hx (by omega) (by omega) (by omega) hl'
      rwa [show ((t + (k + 1) : Nat) : Int) = (u : Int) + 1 from by omega] at this
    have HN1 := Lib.hid hn1
    have HW1 := Lib.hid hw1
    have HNO := Lib.hid hno
    have HA1 := Lib.hid ha1
    have huu : u ≤ 100000 := by omega
    have hd0 : decide (u < t) = false := decide_eq_false (by omega)
    clear hn1 hw1 hno ha1 hl' hck hfk hu
    go_wp2_with (first
      | (go_at_call 21; refine (HN1.out _ HENV.out.ok).mono ?_; clear HN1; rintro e wn ⟨rfl, hb⟩; have HENVn := Lib.hid (HENV.out.below hb); clear hb HENV; have HENV := HENVn; clear HENVn; clear c0 c1 c2 c3 c4; obtain ⟨c0, c1, c2, c3, c4⟩ := calCells HENV.out.row)
      | (go_at_call 17; refine (HW1.out _ HENV.out.ok).mono ?_; clear HW1; rintro e wn ⟨rfl, hb⟩; have HENVn := Lib.hid (HENV.out.below hb); clear hb HENV; have HENV := HENVn; clear HENVn; clear c0 c1 c2 c3 c4; obtain ⟨c0, c1, c2, c3, c4⟩ := calCells HENV.out.row))
    clear c0 c1 c2 c3 c4
    go_loopw [8] (fun i wr => ∃ x : Nat, t ≤ x ∧ x ≤ u ∧ i = .int .i64 x ∧ Env w g D F U W A n c hs wr) (fun i _ => u - (intOf i).toNat)
    case atStart => exact ⟨t, by omega, hut, rfl, HENV.out⟩
    case round =>
      obtain ⟨x, hx1, hx2, rfl, henv⟩ := hrel
      clear HENV
      have HENV := Lib.hid henv
      clear henv
      obtain ⟨c0, c1, c2, c3, c4⟩ := calCells HENV.out.row
      by_cases hlt : x < u
      · have HX := Lib.hid (HNO.out x hx1 hlt)
        go_wp2_with (first
          | (go_at_call 17; refine (HX.out _ HENV.out.ok).mono ?_; clear HX; rintro e wn ⟨rfl, hb⟩; have HENVn := Lib.hid (HENV.out.below hb); clear hb HENV; have HENV := HENVn; clear HENVn; clear c0 c1 c2 c3 c4; obtain ⟨c0, c1, c2, c3, c4⟩ := calCells HENV.out.row))
        exact ⟨⟨x + 1, by omega, by omega, by go_num, HENV.out⟩, by simp [intOf]; omega⟩
      · obtain rfl : x = u := by omega
        go_wp2_with (first
          | (go_at_call 19; refine (HA1.out _ HENV.out.ok).mono ?_; clear HA1; rintro e wn ⟨rfl, hb⟩; have HENVn := Lib.hid (HENV.out.below hb); clear hb HENV; have HENV := HENVn; clear HENVn; clear c0 c1 c2 c3 c4; obtain ⟨c0, c1, c2, c3, c4⟩ := calCells HENV.out.row)
          | (go_at_call 8; refine (HAW.out _).mono ?_; rintro e w9 ⟨rfl, hb⟩; have HB := Lib.hid hb; clear hb))
        go_ret
        exact ⟨rfl, HENV.out.bl.trans (HB.out.mono HENV.out.bl.size)⟩

/-! ### THE ROW's STEP: WRITTEN OUT: LEAVE IT -/
set_option maxRecDepth 100000 in
theorem lifted (os : Os) (started : os.Started) (H : Type) (enc : TypeId × Value → H) :
    ReturnsInHanded {} Try.checked os 6 .any (Rows.calendarNextSpec.pre6 enc Try.prog Try.f6 Rows.calendarNextRow.domain false) (Rows.calendarNextSpec.post enc Try.prog Try.f6 false true false false) := by
  refine returnsInHanded_of_change (C := Try.checked) own started (by kernel_rfl) Try.func6
    (ChangeSpec.witness6 (enc := enc) (C := Try.checked) false ⟨#[], #[.slice none 0 0], []⟩ 8 (by kernel_rfl) (by kernel_rfl) (by kernel_rfl) (by kernel_rfl)) ?_
  intro W base args ds gs before hval0 hW hcnd _
  have hval : ∀ (j : Nat) t v, Try.f6.params[j]? = some t → args[j]? = some v → Value.okWide Try.prog W .any base t v := hval0
  have hW' := hW
  obtain ⟨p, q, hA0, hV, rfl, hfz, hnd⟩ := hW
  have hA : DataW.TrodAll enc Try.prog W 0 (fun _ => true) true Try.f6.params.toList args.toList ds p := hA0
  rw [Try.params6] at hA hval
  obtain ⟨v0, vs0, d0, ds0, p0, q0, hargs, rfl, rfl, h0, r0⟩ := trodAll_cons hA
  obtain ⟨rfl, rfl, rfl⟩ := trodAll_nil r0
  obtain rfl : args = #[v0] := by cases args; simp_all
  obtain ⟨rfl, rfl⟩ := trodVars_none hV
  obtain ⟨a0, len0, cap0, rfl⟩ := okWide_slice Try.underlying22 (hval 0 22 v0 rfl rfl)
  have k0 := h0
  have lt0 : ∀ x ∈ p0, x.block < W.heap.size := by obtain ⟨m, hm⟩ := k0; exact DataW.trod_lt m _ _ _ hm
  obtain ⟨z0, w0⟩ : ∃ zs, IsRow .i64 W a0 len0 cap0 zs := by
    obtain ⟨fuel, hf⟩ := h0
    rcases open_ints Try.underlying22 Try.underlying3 (by kernel_rfl) hf with ⟨hcs, _⟩ | ⟨x, l, c, zs, hcs, _, hl, hm, hz, _, hcell, hwz⟩
    · simp [Value.cells] at hcs
      obtain ⟨rfl, rfl, rfl⟩ := hcs
      exact ⟨[], .inl ⟨rfl, rfl, rfl, rfl⟩⟩
    · simp [Value.cells] at hcs
      obtain ⟨rfl, rfl, rfl⟩ := hcs
      exact ⟨zs, .inr ⟨_, rfl, hl, hm, by simpa using hz, hcell, hwz⟩⟩
  clear hA0 hval0
  refine (walk a0 len0 cap0 z0 W w0).mono fun e W' ⟨he, bel⟩ => ?_
  subst he
  exact ⟨_, rfl, _, _, _, [], _, [], hW', trodAll_mk1 (shut_bool Try.underlying4 _), (trodAll_cons_mk (Below.trod laidOut (by kernel_rfl) (of_decide_eq_true (by kernel_rfl)) k0 bel lt0) trodAll_mk0), rfl, bel.frame _, fun h => by cases h⟩

theorem over : Rows.calendarNextRow.holds Try.pinned (OpenSpec.ofChange Rows.calendarNextSpec) :=
  OpenClaim.holds_of_wide 6 Try.f6 rfl rfl rfl rfl rfl rfl rfl ⟨rfl, rfl, rfl, rfl, rfl⟩ rfl rfl rfl rfl rfl (by kernel_rfl) Try.func6 (by kernel_rfl)
    (of_decide_eq_true (by kernel_rfl)) (by unfold Func.isWrapper; first | (rw [if_pos (by decide +kernel)]; kernel_rfl) | (rw [if_neg (by decide +kernel)]; exact ⟨rfl, rfl⟩))
    (fun os started H enc _ => lifted os started H enc)

/-- ████ THE STATEMENT ████ -/
theorem proved : Rows.CalendarNextSaid := over
#print axioms proved
end Go.Proofs.Ytofagmljigbacaa.calendarNext
