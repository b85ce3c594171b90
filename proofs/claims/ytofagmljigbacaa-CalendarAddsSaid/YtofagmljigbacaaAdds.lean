/- For every tape, CalendarAdds returns true: Add and Between undo each other, and Add is the least time at which enough ticks are over. No condition. -/
import Derived.Test.YtofagmljigbacaaFrame
namespace Go.Proofs.Ytofagmljigbacaa.calendarAdds
open Go.ChangeShapes Go.WideShapes Go.ChangeAt Go.RowKit
open Go.ChangeMaps (open_string shut_string)
open Go.Proofs.Ytofagmljigbacaa.Tp Go.Proofs.Ytofagmljigbacaa.Cal
set_option linter.unusedVariables false

set_option maxRecDepth 100000 in
set_option maxHeartbeats 1000000 in
theorem walk (a0 : Option Addr) (len0 cap0 : Nat) (z0 : List Int) (w : World) (w0 : IsRow .i64 w a0 len0 cap0 z0) :
    Calls Try.prog 4 #[.slice a0 len0 cap0] w fun e w' => e = .returned (.bool true) ∧ Below w.heap.size w w' := by
  have htp := tape_new w0
  have hmax := w0.at_.1
  unfold maxLen at hmax
  have HTP := Lib.hid htp
  have HAW := Lib.hid awake_any
  have hz := zero24
  clear w0 htp
  by_cases hlen : 200 < len0
  · go_enter Try.func4, Try.ntmps4
    go_wp2_with (go_at_call 8; refine (HAW.out _).mono ?_; rintro e w1 ⟨rfl, hb⟩; have HB := Lib.hid hb; clear hb)
    go_ret
    exact ⟨rfl, HB.out⟩
  · go_enter Try.func4, Try.ntmps4
    go_wp2_with fail
    refine (calendar_any w.heap.size _ HTP.out (by simp)).mono ?_
    rintro e w1 ⟨D, F, U, W, A, n, c, hs, rfl, hok, hgood, hD12, hfar, hg1, ht1⟩
    have HENV := Lib.hid (env_new (x := calC 0 0 0 0 none 0 0) (c := c) hok hfar hg1 ht1)
    have HGOOD := Lib.hid hgood
    have hgs : w.heap.size < w1.heap.size := by have := hg1.size; simp at this; omega
    clear hok hgood hfar hg1 ht1
    go_wp2_with (refine wpList_store_row rfl 24 _ _ rfl w1.heap.size (calC D F U W A n c) rfl rfl 24 (calC 0 0 0 0 none 0 0) (heap_alloc_new w1 _) (info24 _ _ _ _ _ _ _) rfl (calC_one _ _ _ _ _ _ _) ?_)
    generalize (w1.alloc (.cells (calC 0 0 0 0 none 0 0) 24)).setRow w1.heap.size (calC D F U W A n c) = w2 at *
    generalize w1.heap.size = g at *
    refine (next_any w.heap.size 200 _ HENV.out.tp (by omega) (by omega)).mono ?_
    rintro e w3 ⟨r, hr0, hr1, rfl, hg, ht⟩
    obtain ⟨t, rfl⟩ : ∃ t : Nat, r = t := ⟨r.toNat, by omega⟩
    have HENV3 := Lib.hid (HENV.out.tape hg ht)
    clear hg ht HENV
    go_wp2_with fail
    refine (next_any w.heap.size 12 _ HENV3.out.tp (by omega) (by omega)).mono ?_
    rintro e w4 ⟨r, hr0', hr1', rfl, hg, ht⟩
    obtain ⟨N, rfl⟩ : ∃ N : Nat, r = N := ⟨r.toNat, by omega⟩
    have HENV4 := Lib.hid (HENV3.out.tape hg ht)
    clear hg ht HENV3
    obtain ⟨c0, c1, c2, c3, c4⟩ := calCells HENV4.out.row
    obtain ⟨k, hk, hl⟩ := exists_least HGOOD.out t N (by omega)
    have HL := Lib.hid hl
    clear hl
    go_wp2_with fail
    refine (Add_any D F U W A n c hs t N k _ HENV4.out.ok (by omega) (by omega) (by omega) HL.out).mono ?_
    rintro e w5 ⟨rfl, hb⟩
    have HENV5 := Lib.hid (HENV4.out.below hb)
    clear hb HENV4 c0 c1 c2 c3 c4
    obtain ⟨c0, c1, c2, c3, c4⟩ := calCells HENV5.out.row
    have hbt := Between_any D F U W A n c hs t k _ HENV5.out.ok (by omega) (by omega)
    rw [HL.out.1] at hbt
    have HBT := Lib.hid hbt
    clear hbt
    by_cases hN : N = 0
    · subst hN
      obtain rfl : k = 0 := least_unique HL.out (least_zero _ _)
      rw [Nat.add_zero] at HBT ⊢
      go_wp2_with (first
        | (go_at_call 15; refine HBT.out.mono ?_; rintro e w6 ⟨rfl, hb⟩; have HENV6 := Lib.hid (HENV5.out.below hb); clear hb)
        | (go_at_call 8; refine (HAW.out _).mono ?_; rintro e w7 ⟨rfl, hb⟩; have HB := Lib.hid hb; clear hb))
      go_ret
      exact ⟨rfl, HENV6.out.bl.trans (HB.out.mono HENV6.out.bl.size)⟩
    · obtain ⟨j, rfl, hcj, hfj⟩ := least_pred HL.out (by omega)
      obtain ⟨u, hu⟩ : ∃ u, t + j = u := ⟨_, rfl⟩
      have hw8 : ∀ wx, CalOk wx D F U W A n hs → Calls Try.prog 17 #[.agg (calC D F U W A n c), .int .i64 (u : Int)] wx fun e w' => e = .returned (.bool true) ∧ Below wx.heap.size wx w' := by
        intro wx hx
        have := Working_any D F U W A n c hs (t + j) wx hx (by omega)
        rw [hfj, hu] at this
        exact this
      have hb8 : ∀ wx, CalOk wx D F U W A n hs → Calls Try.prog 15 #[.agg (calC D F U W A n c), .int .i64 (t : Int), .int .i64 (u : Int)] wx fun e w' => e = .returned (.tuple #[.int .i64 ((N : Int) - 1), .int .i64 0]) ∧ Below wx.heap.size wx w' := by
        intro wx hx
        have := Between_any D F U W A n c hs t j wx hx (by omega) (by omega)
        rw [hcj, hu, show ((N - 1 : Nat) : Int) = (N : Int) - 1 from by omega] at this
        exact this
      have eu : ((t + (j + 1) : Nat) : Int) = (u : Int) + 1 := by omega
      have hut : t ≤ u := by omega
      have huu : u ≤ 100000 := by omega
      have hne : ((N : Int) == 0) = false := beq_eq_false_iff_ne.2 (by omega)
      rw [eu] at HBT ⊢
      have HW8 := Lib.hid hw8
      have HB8 := Lib.hid hb8
      clear hw8 hb8 eu hcj hfj hu hk
      go_wp2_with (first
        | (go_at_call 15; refine HBT.out.mono ?_; rintro e w6 ⟨rfl, hb⟩; have HENV6 := Lib.hid (HENV5.out.below hb); clear hb c0 c1 c2 c3 c4 HBT; obtain ⟨c0, c1, c2, c3, c4⟩ := calCells HENV6.out.row)
        | (go_at_call 15; refine (HB8.out _ HENV6.out.ok).mono ?_; rintro e w7 ⟨rfl, hb⟩; have HENV7 := Lib.hid (HENV6.out.below hb); clear hb c0 c1 c2 c3 c4; obtain ⟨c0, c1, c2, c3, c4⟩ := calCells HENV7.out.row)
        | (go_at_call 17; refine (HW8.out _ HENV7.out.ok).mono ?_; rintro e w8 ⟨rfl, hb⟩; have HENV8 := Lib.hid (HENV7.out.below hb); clear hb)
        | (go_at_call 8; refine (HAW.out _).mono ?_; rintro e w9 ⟨rfl, hb⟩; have HB := Lib.hid hb; clear hb))
      go_ret
      exact ⟨rfl, HENV8.out.bl.trans (HB.out.mono HENV8.out.bl.size)⟩

/-! ### THE ROW's STEP: WRITTEN OUT: LEAVE IT -/
set_option maxRecDepth 100000 in
theorem lifted (os : Os) (started : os.Started) (H : Type) (enc : TypeId × Value → H) :
    ReturnsInHanded {} Try.checked os 4 .any (Rows.calendarAddsSpec.pre6 enc Try.prog Try.f4 Rows.calendarAddsRow.domain false) (Rows.calendarAddsSpec.post enc Try.prog Try.f4 false true false false) := by
  refine returnsInHanded_of_change (C := Try.checked) own started (by kernel_rfl) Try.func4
    (ChangeSpec.witness6 (enc := enc) (C := Try.checked) false ⟨#[], #[.slice none 0 0], []⟩ 8 (by kernel_rfl) (by kernel_rfl) (by kernel_rfl) (by kernel_rfl)) ?_
  intro W base args ds gs before hval0 hW hcnd _
  have hval : ∀ (j : Nat) t v, Try.f4.params[j]? = some t → args[j]? = some v → Value.okWide Try.prog W .any base t v := hval0
  have hW' := hW
  obtain ⟨p, q, hA0, hV, rfl, hfz, hnd⟩ := hW
  have hA : DataW.TrodAll enc Try.prog W 0 (fun _ => true) true Try.f4.params.toList args.toList ds p := hA0
  rw [Try.params4] at hA hval
  obtain ⟨v0, vs0, d0, ds0, p0, q0, hargs, rfl, rfl, h0, r0⟩ := trodAll_cons hA
  obtain ⟨rfl, rfl, rfl⟩ := trodAll_nil r0
  obtain rfl : args = #[v0] := by cases args; simp_all
  obtain ⟨rfl, rfl⟩ := trodVars_none hV
  obtain ⟨a0, len0, cap0, rfl⟩ := okWide_slice Try.underlying22 (hval 0 22 v0 rfl rfl)
  have k0 := h0
  have lt0 : ∀ x ∈ p0, x.block < W.heap.size := by obtain ⟨m, hm⟩ := k0; exact DataW.trod_lt m _ _ _ hm
  obtain ⟨z0, w0⟩ : ∃ zs, IsRow .i64 W a0 len0 cap0 zs := by
    obtain ⟨fuel, hf⟩ := h0
    rcases open_ints Try.underlying22 Try.underlying3 (by kernel_rfl) hf with ⟨hcs, _⟩ | ⟨x, l, c, zs, hcs, _, hl, hm, hz, _, hcell, hwz⟩
    · simp [Value.cells] at hcs
      obtain ⟨rfl, rfl, rfl⟩ := hcs
      exact ⟨[], .inl ⟨rfl, rfl, rfl, rfl⟩⟩
    · simp [Value.cells] at hcs
      obtain ⟨rfl, rfl, rfl⟩ := hcs
      exact ⟨zs, .inr ⟨_, rfl, hl, hm, by simpa using hz, hcell, hwz⟩⟩
  clear hA0 hval0
  refine (walk a0 len0 cap0 z0 W w0).mono fun e W' ⟨he, bel⟩ => ?_
  subst he
  exact ⟨_, rfl, _, _, _, [], _, [], hW', trodAll_mk1 (shut_bool Try.underlying4 _), (trodAll_cons_mk (Below.trod laidOut (by kernel_rfl) (of_decide_eq_true (by kernel_rfl)) k0 bel lt0) trodAll_mk0), rfl, bel.frame _, fun h => by cases h⟩

theorem over : Rows.calendarAddsRow.holds Try.pinned (OpenSpec.ofChange Rows.calendarAddsSpec) :=
  OpenClaim.holds_of_wide 4 Try.f4 rfl rfl rfl rfl rfl rfl rfl ⟨rfl, rfl, rfl, rfl, rfl⟩ rfl rfl rfl rfl rfl (by kernel_rfl) Try.func4 (by kernel_rfl)
    (of_decide_eq_true (by kernel_rfl)) (by unfold Func.isWrapper; first | (rw [if_pos (by decide +kernel)]; kernel_rfl) | (rw [if_neg (by decide +kernel)]; exact ⟨rfl, rfl⟩))
    (fun os started H enc _ => lifted os started H enc)

/-- ████ THE STATEMENT ████ -/
theorem proved : Rows.CalendarAddsSaid := over
#print axioms proved
end Go.Proofs.Ytofagmljigbacaa.calendarAdds
