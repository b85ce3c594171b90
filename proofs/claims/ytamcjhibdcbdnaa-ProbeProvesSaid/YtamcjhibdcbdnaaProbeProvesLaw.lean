/-
  The Go function leakresponse/leakresponselaw38.ProbeProves returns true for every list of numbers, and leaves what was there as it was; no conditions.
-/
import Derived.Test.YtamcjhibdcbdnaaCFr
import Derived.Test.YtamcjhibdcbdnaaRows
import Derived.WalkKit
import Derived.ProofKit
import Derived.OpenShut
import Derived.ShutString
import Derived.ChangeOld
import Derived.Below
namespace Go.Proofs.Ytamcjhibdcbdnaa.probeProves
open Go.ChangeShapes Go.WideShapes Go.ChangeAt Go.RowKit
open Go.ChangeMaps (open_string shut_string)
open Go.Proofs.Ytamcjhibdcbdnaa.Tp
open Go.Proofs.Ytamcjhibdcbdnaa.Cl
set_option linter.unusedVariables false

set_option maxRecDepth 100000 in
set_option maxHeartbeats 2000000 in
theorem walk (a0 : Option Addr) (len0 cap0 : Nat) (z0 : List Int) (w : World) (w0 : IsRow .i64 w a0 len0 cap0 z0) :
    Calls Try.prog 9 #[.slice a0 len0 cap0] w fun e w' => e = .returned (.bool true) ∧ Below w.heap.size w w' := by
  have hm := w0.at_.1
  unfold maxLen at hm
  have HTP := Lib.hid (tape_new w0)
  have HBX := Lib.hid (box_below w (.cells #[.slice a0 len0 cap0, .int .i64 0] 32))
  clear w0
  by_cases hlen : 300 < len0
  · have hl0 : (300 : Int) < (len0 : Int) := by omega
    go_enter Try.func9, Try.ntmps9
    go_wp2_with (go_at_call 37; refine (awake38 _).mono ?_; rintro e w1 ⟨rfl, hb1⟩; have HB1 := Lib.hid hb1; clear hb1)
    go_ret
    exact ⟨rfl, HB1.out⟩
  · have hl0 : (len0 : Int) ≤ (300 : Int) := by omega
    go_enter Try.func9, Try.ntmps9
    go_wp2_with fail
    refine (cluster_any w.heap.size _ HTP.out (by simp)).mono ?_
    rintro e w1 ⟨c, v, rfl, hok, hcl, hg1, ht1⟩
    have hb1 : Below w.heap.size w w1 := HBX.out.grown hg1 HBX.out.size (fun k e => by cases e; exact Nat.le_refl _)
    have hs1 := hb1.size
    have HQ := Lib.hid (heap_alloc_new w1 (.cells (cv c v) 25))
    have HC := Lib.hid (hcl.below (box_below w1 (.cells (cv c v) 25)))
    have HB1 := Lib.hid (hb1.trans ((box_below w1 (.cells (cv c v) 25)).mono hb1.size))
    have hmath := enough_dead (c := c) hok
    have HMATH := Lib.hid hmath
    have hR := right_ans c
    have hrr : ∀ j, j < c.r.length → ((ans c c.r.length).getD j e0).r < c.r.length := fun j hj => by
      rw [ans_at _ _ _ hj]
      exact hj
    have HR := Lib.hid hR
    have HRR := Lib.hid hrr
    have hr2 := hok.r2
    have HOK := Lib.hid hok
    clear hcl hg1 ht1 hb1 hmath hR hrr hok
    have hall : ∀ w', Below (w1.alloc (.cells (cv c v) 25)).heap.size (w1.alloc (.cells (cv c v) 25)) w' → Calls Try.prog 38 #[.agg #[.bool c.f, .slice v.A1 c.s.length v.c1, .slice v.A2 c.r.length v.c2, .slice v.A3 c.p.length v.c3]] w' (AllPost c w') := fun w' hb => all_any 12 _ c v w' (HC.out.below hb) HOK.out (by omega)
    have HALL := Lib.hid hall
    clear hall
    obtain ⟨c0, c1, c2, c3⟩ := cvCells _ _ _ _ _ _ HQ.out
    go_wp2_with (refine wpList_store_row (o := ⟨none, .store 25 (.tmp 4) (.tmp 17), _, _, _, _⟩) rfl 25 (.tmp 4) (.tmp 17) rfl w1.heap.size (cv c v) rfl rfl 25 zC (heap_alloc_new _ _) (info25 _ _) rfl (cv_one _ _) ?_; rw [new_set])
    refine (HALL.out _ (Below.refl _ _)).mono ?_
    rintro e w4 ⟨A, cc, rfl, hrow, hb4⟩
    have Q4 := Lib.hid ((hb4.block w1.heap.size (row_lt HQ.out)).trans HQ.out)
    have HB4 := Lib.hid (HB1.out.trans (hb4.mono HB1.out.size))
    have HC4 := Lib.hid (HC.out.below hb4)
    have HROW := Lib.hid hrow
    clear hb4 hrow c0 c1 c2 c3
    have hri : ∀ w', Below w4.heap.size w4 w' → Calls Try.prog 45 #[.agg #[.bool c.f, .slice v.A1 c.s.length v.c1, .slice v.A2 c.r.length v.c2, .slice v.A3 c.p.length v.c3], .slice A c.r.length cc] w' fun e w'' => e = .returned (.bool true) ∧ Below w'.heap.size w' w'' := fun w' hb => by
      have := right_any 12 _ _ _ cc A c v _ w' (HC4.out.below hb) HOK.out (by omega) (HROW.out.below hb) (by omega) HRR.out
      rw [HR.out] at this
      exact this
    have hen : ∀ w', Below w4.heap.size w4 w' → Calls Try.prog 47 #[.agg #[.bool c.f, .slice v.A1 c.s.length v.c1, .slice v.A2 c.r.length v.c2, .slice v.A3 c.p.length v.c3], .slice A c.r.length cc] w' fun e w'' => e = .returned (.bool (enough c (ans c c.r.length))) ∧ Below w'.heap.size w' w'' := fun w' hb => enough_any 12 _ _ _ cc A c v _ w' (HC4.out.below hb) HOK.out (by omega) (HROW.out.below hb) (by omega)
    have hde : ∀ w', Below w4.heap.size w4 w' → Calls Try.prog 33 #[.agg #[.bool c.f, .slice v.A1 c.s.length v.c1, .slice v.A2 c.r.length v.c2, .slice v.A3 c.p.length v.c3], .int .i64 1] w' fun e w'' => e = .returned (.bool (dead c 1)) ∧ Below w'.heap.size w' w'' := fun w' hb => refDead_any 12 _ c v w' (HC4.out.below hb) HOK.out (by omega)
    have hsi : ∀ w', Below w4.heap.size w4 w' → Calls Try.prog 43 #[.agg #[.bool c.f, .slice v.A1 c.s.length v.c1, .slice v.A2 c.r.length v.c2, .slice v.A3 c.p.length v.c3], .int .i64 1] w' fun e w'' => e = .returned (.tuple #[.int .i64 ((sS c : Nat) : Int), .bool (sO c)]) ∧ Below w'.heap.size w' w'' := fun w' hb => since_two 12 _ c v w' (HC4.out.below hb) HOK.out (by omega)
    have HRI := Lib.hid hri
    have HEN := Lib.hid hen
    have HDE := Lib.hid hde
    have HSI := Lib.hid hsi
    clear hri hen hde hsi
    obtain ⟨c0, c1, c2, c3⟩ := cvCells _ _ _ _ _ _ Q4.out
    go_wp2_with fail
    refine (HRI.out _ (Below.refl _ _)).mono ?_
    rintro e w5 ⟨rfl, hb5⟩
    have Q5 := Lib.hid ((hb5.block w1.heap.size (row_lt Q4.out)).trans Q4.out)
    have HB5 := Lib.hid hb5
    clear hb5 c0 c1 c2 c3
    obtain ⟨c0, c1, c2, c3⟩ := cvCells _ _ _ _ _ _ Q5.out
    go_wp2_with fail
    refine (HEN.out _ HB5.out).mono ?_
    rintro e w6 ⟨rfl, hb6⟩
    have Q6 := Lib.hid ((hb6.block w1.heap.size (row_lt Q5.out)).trans Q5.out)
    have HB6 := Lib.hid (HB5.out.trans (hb6.mono HB5.out.size))
    clear hb6 c0 c1 c2 c3
    obtain ⟨c0, c1, c2, c3⟩ := cvCells _ _ _ _ _ _ Q6.out
    cases he : enough c (ans c c.r.length) with
    | true =>
      obtain ⟨hd, hso⟩ := HMATH.out he
      rw [hd] at HDE
      rw [hso] at HSI
      clear he hd hso
      go_wp2_with fail
      refine (HDE.out _ HB6.out).mono ?_
      rintro e w7 ⟨rfl, hb7⟩
      have Q7 := Lib.hid ((hb7.block w1.heap.size (row_lt Q6.out)).trans Q6.out)
      have HB7 := Lib.hid (HB6.out.trans (hb7.mono HB6.out.size))
      clear hb7 c0 c1 c2 c3
      obtain ⟨c0, c1, c2, c3⟩ := cvCells _ _ _ _ _ _ Q7.out
      go_wp2_with fail
      refine (HSI.out _ HB7.out).mono ?_
      rintro e w8 ⟨rfl, hb8⟩
      have HB8 := Lib.hid (HB7.out.trans (hb8.mono HB7.out.size))
      clear hb8 c0 c1 c2 c3
      go_wp2_with fail
      refine (awake38 _).mono ?_
      rintro e w9 ⟨rfl, hb9⟩
      have HB9 := Lib.hid (HB4.out.trans ((HB8.out.trans (hb9.mono HB8.out.size)).mono HB4.out.size))
      clear hb9
      go_wp2_with fail
      go_ret
      exact ⟨rfl, HB9.out⟩
    | false =>
      rw [he] at HEN
      clear he
      go_wp2_with fail
      refine (HSI.out _ HB6.out).mono ?_
      rintro e w8 ⟨rfl, hb8⟩
      have Q8 := Lib.hid ((hb8.block w1.heap.size (row_lt Q6.out)).trans Q6.out)
      have HB8 := Lib.hid (HB6.out.trans (hb8.mono HB6.out.size))
      clear hb8 c0 c1 c2 c3
      obtain ⟨c0, c1, c2, c3⟩ := cvCells _ _ _ _ _ _ Q8.out
      generalize sO c = so at *
      cases so with
      | true =>
        go_wp2_with fail
        refine (awake38 _).mono ?_
        rintro e w9 ⟨rfl, hb9⟩
        have HB9 := Lib.hid (HB4.out.trans ((HB8.out.trans (hb9.mono HB8.out.size)).mono HB4.out.size))
        clear hb9
        go_wp2_with fail
        go_ret
        exact ⟨rfl, HB9.out⟩
      | false =>
        go_wp2_with fail
        refine (HEN.out _ HB8.out).mono ?_
        rintro e w10 ⟨rfl, hb10⟩
        have HB10 := Lib.hid (HB8.out.trans (hb10.mono HB8.out.size))
        clear hb10 c0 c1 c2 c3
        go_wp2_with fail
        refine (awake38 _).mono ?_
        rintro e w9 ⟨rfl, hb9⟩
        have HB9 := Lib.hid (HB4.out.trans ((HB10.out.trans (hb9.mono HB10.out.size)).mono HB4.out.size))
        clear hb9
        go_wp2_with fail
        go_ret
        exact ⟨rfl, HB9.out⟩

/-! ### THE ROW's STEP: WRITTEN OUT: LEAVE IT -/
set_option maxRecDepth 100000 in
theorem lifted (os : Os) (started : os.Started) (H : Type) (enc : TypeId × Value → H) :
    ReturnsInHanded {} Try.checked os 9 .any (Rows.probeProvesSpec.pre6 enc Try.prog Try.f9 Rows.probeProvesRow.domain false) (Rows.probeProvesSpec.post enc Try.prog Try.f9 false true false false) := by
  refine returnsInHanded_of_change (C := Try.checked) own started (by kernel_rfl) Try.func9
    (ChangeSpec.witness6 (enc := enc) (C := Try.checked) false ⟨#[], #[.slice none 0 0], []⟩ 8 (by kernel_rfl) (by kernel_rfl) (by kernel_rfl) (by kernel_rfl)) ?_
  intro W base args ds gs before hval0 hW hcnd _
  have hval : ∀ (j : Nat) t v, Try.f9.params[j]? = some t → args[j]? = some v → Value.okWide Try.prog W .any base t v := hval0
  have hW' := hW
  obtain ⟨p, q, hA0, hV, rfl, hfz, hnd⟩ := hW
  have hA : DataW.TrodAll enc Try.prog W 0 (fun _ => true) true Try.f9.params.toList args.toList ds p := hA0
  rw [Try.params9] at hA hval
  obtain ⟨v0, vs0, d0, ds0, p0, q0, hargs, rfl, rfl, h0, r0⟩ := trodAll_cons hA
  obtain ⟨rfl, rfl, rfl⟩ := trodAll_nil r0
  obtain rfl : args = #[v0] := by cases args; simp_all
  obtain ⟨rfl, rfl⟩ := trodVars_none hV
  obtain ⟨a0, len0, cap0, rfl⟩ := okWide_slice Try.underlying22 (hval 0 22 v0 rfl rfl)
  have k0 := h0
  have lt0 : ∀ x ∈ p0, x.block < W.heap.size := by obtain ⟨m, hm⟩ := k0; exact DataW.trod_lt m _ _ _ hm
  obtain ⟨z0, w0⟩ : ∃ zs, IsRow .i64 W a0 len0 cap0 zs := by
    obtain ⟨fuel, hf⟩ := h0
    rcases open_ints Try.underlying22 Try.underlying3 (by kernel_rfl) hf with ⟨hcs, _⟩ | ⟨x, l, c, zs, hcs, _, hl, hm, hz, _, hcell, hwz⟩
    · simp [Value.cells] at hcs
      obtain ⟨rfl, rfl, rfl⟩ := hcs
      exact ⟨[], .inl ⟨rfl, rfl, rfl, rfl⟩⟩
    · simp [Value.cells] at hcs
      obtain ⟨rfl, rfl, rfl⟩ := hcs
      exact ⟨zs, .inr ⟨_, rfl, hl, hm, by simpa using hz, hcell, hwz⟩⟩
  clear hA0 hval0
  refine (walk a0 len0 cap0 z0 W w0).mono fun e W' ⟨he, bel⟩ => ?_
  subst he
  exact ⟨_, rfl, _, _, _, [], _, [], hW', trodAll_mk1 (shut_bool Try.underlying4 _), (trodAll_cons_mk (Below.trod laidOut (by kernel_rfl) (of_decide_eq_true (by kernel_rfl)) k0 bel lt0) trodAll_mk0), rfl, bel.frame _, fun h => by cases h⟩

theorem over : Rows.probeProvesRow.holds Try.pinned (OpenSpec.ofChange Rows.probeProvesSpec) :=
  OpenClaim.holds_of_wide 9 Try.f9 rfl rfl rfl rfl rfl rfl rfl ⟨rfl, rfl, rfl, rfl, rfl⟩ rfl rfl rfl rfl rfl (by kernel_rfl) Try.func9 (by kernel_rfl)
    (of_decide_eq_true (by kernel_rfl)) (by unfold Func.isWrapper; first | (rw [if_pos (by decide +kernel)]; kernel_rfl) | (rw [if_neg (by decide +kernel)]; exact ⟨rfl, rfl⟩))
    (fun os started H enc _ => lifted os started H enc)

/-- ████ THE STATEMENT ████ -/
theorem proved : Rows.ProbeProvesSaid := over
#print axioms proved
end Go.Proofs.Ytamcjhibdcbdnaa.probeProves
