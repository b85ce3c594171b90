/-
  The Go function leakresponse/leakresponselaw38.ProbeMissing returns true for every list of numbers, and leaves what was there as it was; no conditions.
-/
import Derived.Test.YtamcjhibdcbdnaaCEx
import Derived.Test.YtamcjhibdcbdnaaRows
import Derived.WalkKit
import Derived.ProofKit
import Derived.OpenShut
import Derived.ShutString
import Derived.ChangeOld
import Derived.Below
import Derived.IntWalk
import Derived.Deep.RegionHeld3
namespace Go.Proofs.Ytamcjhibdcbdnaa.probeMissing
open Go.ChangeShapes Go.WideShapes Go.ChangeAt Go.RowKit
open Go.ChangeMaps (open_string shut_string)
open Go.Proofs.Ytamcjhibdcbdnaa.Tp
open Go.Proofs.Ytamcjhibdcbdnaa.Cl
set_option linter.unusedVariables false

theorem has_even (z b : Nat) (h : 2 * z = b) (hz : z ≤ 1) : has b 1 = false := by
  rcases (by omega : z = 0 ∨ z = 1) with rfl | rfl <;> subst h <;> decide

theorem newest_pub (c : Cl) (b : Nat) : newest (ap c ⟨1, 0, 0, b⟩) = b := by
  rw [ap, if_pos rfl]
  show (c.s ++ [b]).getD ((c.s ++ [b]).length - 1) 0 = b
  rw [show (c.s ++ [b]).length - 1 = c.s.length by simp]
  exact gd_end _ _

set_option maxRecDepth 100000 in
set_option maxHeartbeats 4000000 in
theorem walk (a0 : Option Addr) (len0 cap0 : Nat) (z0 : List Int) (w : World) (w0 : IsRow .i64 w a0 len0 cap0 z0) :
    Calls Try.prog 11 #[.slice a0 len0 cap0] w fun e w' => e = .returned (.bool true) ∧ Below w.heap.size w w' := by
  have hm := w0.at_.1
  unfold maxLen at hm
  have HTP := Lib.hid (tape_new w0)
  have HBX := Lib.hid (box_below w (.cells #[.slice a0 len0 cap0, .int .i64 0] 32))
  clear w0
  by_cases hlen : 300 < len0
  · have hl0 : (300 : Int) < (len0 : Int) := by omega
    go_enter Try.func11, Try.ntmps11
    go_wp2_with (go_at_call 37; refine (awake38 _).mono ?_; rintro e w1 ⟨rfl, hb1⟩; have HB1 := Lib.hid hb1; clear hb1)
    go_ret
    exact ⟨rfl, HB1.out⟩
  · have hl0 : (len0 : Int) ≤ (300 : Int) := by omega
    go_enter Try.func11, Try.ntmps11
    go_wp2_with fail
    refine (cluster_any w.heap.size _ HTP.out (by simp)).mono ?_
    rintro e w1 ⟨c, v, rfl, hok, hcl, hg1, ht1⟩
    have hb1 : Below w.heap.size w w1 := HBX.out.grown hg1 HBX.out.size (fun k e => by cases e; exact Nat.le_refl _)
    have hs1 := hg1.size
    simp at hs1
    have HQ := Lib.hid (heap_alloc_new w1 (.cells (cv c v) 25))
    have HC := Lib.hid (hcl.below (box_below w1 (.cells (cv c v) 25)))
    have HB1 := Lib.hid (hb1.trans ((box_below w1 (.cells (cv c v) 25)).mono hb1.size))
    have HT1 := Lib.hid (tape_new2 ht1 (.cells (cv c v) 25))
    have hlQ : (w1.alloc (.cells (cv c v) 25)).heap.size = w1.heap.size + 1 := by simp
    have HLQ := Lib.hid hlQ
    have hr2 := hok.r2
    have HOK := Lib.hid hok
    have ha : ∀ (b : Nat), b ≤ 3 → ∀ w', CL w' ((w.alloc (.cells #[.slice a0 len0 cap0, .int .i64 0] 32)).heap.size + 1) c v → Calls Try.prog 25 #[.agg #[.bool c.f, .slice v.A1 c.s.length v.c1, .slice v.A2 c.r.length v.c2, .slice v.A3 c.p.length v.c3], .agg #[.int .i64 1, .int .i64 0, .int .i64 0, .int .i64 (b : Int)]] w' (AForm c ⟨1, 0, 0, b⟩ w') := fun b hb w' hc => (refapply_any 12 _ c v ⟨1, 0, 0, b⟩ w' hc HOK.out (by omega) (.inl ⟨rfl, rfl, rfl, hb⟩)).mono fun _ _ hp => aform hp
    have hn : ∀ w', TapeOk w' w.heap.size → Calls Try.prog 14 #[.pointer (some ⟨w.heap.size, 0, none⟩), .int .i64 2] w' (NextPost w.heap.size w' 2) := fun w' ht => next_any w.heap.size 2 w' ht (by omega) (by omega)
    have HA := Lib.hid ha
    have HN := Lib.hid hn
    clear hcl hg1 ht1 hb1 hok ha hn hlQ
    obtain ⟨c0, c1, c2, c3⟩ := cvCells _ _ _ _ _ _ HQ.out
    go_wp2_with (refine wpList_store_row (o := ⟨none, .store 25 (.tmp 4) (.tmp 19), _, _, _, _⟩) rfl 25 (.tmp 4) (.tmp 19) rfl w1.heap.size (cv c v) rfl rfl 25 zC (heap_alloc_new _ _) (info25 _ _) rfl (cv_one _ _) ?_; rw [new_set])
    generalize w1.heap.size = Q at *
    generalize w1.alloc (.cells (cv c v) 25) = W1 at *
    have c0' : W1.drew.cell? ⟨Q, 0, none⟩ = some (.bool c.f) := c0
    go_region_with (first
        | (go_at_call 14; (with_reducible refine (HN.out _ ?_).mono ?_); (exact HT1.out); rintro e wa ⟨r, hr0, hr1, rfl, hga, hta⟩; obtain ⟨z, rfl⟩ : ∃ z : Nat, r = z := ⟨r.toNat, by omega⟩; have hga1 : W1.grownBy wa (some w.heap.size) := (by first | exact gb_undrew hga | exact hga); obtain ⟨b, hb⟩ : ∃ b : Nat, 2 * z = b := ⟨_, rfl⟩; have hmul : IntKind.i64.wrap (2 * (z : Int)) = (b : Int) := (by rw [IntWalk.i64_in _ (by omega)]; omega); have hb3 : b ≤ 3 := (by omega); have HEV := Lib.hid (has_even z b hb (by omega)); have QA := Lib.hid ((hga1.block Q (row_lt HQ.out) (by simp; omega)).trans HQ.out); obtain ⟨x0, x1, x2, x3⟩ := cvCells _ _ _ _ _ _ QA.out; have CLA := Lib.hid (HC.out.grown hga1 (fun g e => by cases e; simp; omega)); have GA := Lib.hid hga1; have lQa : Q < wa.heap.size := row_lt QA.out; clear hga hga1 hta hb hr0 hr1)
        | (go_at_call 25; (with_reducible refine (HA.out b hb3 _ ?_).mono ?_); (exact CLA.out); rintro e wb ⟨f', B1, n1, d1, B2, n2, d2, B3, n3, d3, er, rfl, hout⟩; have QB := Lib.hid ((hout.2.block Q lQa).trans QA.out); obtain ⟨y0, y1, y2, y3⟩ := cvCells _ _ _ _ _ _ QB.out; have yf : ∀ j, wb.frozen? ⟨Q, j, none⟩ = false := (fun j => frozen_of_row _ _ _ _ _ QB.out); have HOUT := Lib.hid hout; clear hout)
        )
    all_goals
      rw [set4row QB.out rfl]
      rcases HOUT.out.1 with ⟨-, rfl, v', hcs, hcl⟩ | ⟨hfit, -, -⟩
      · rw [show (#[.bool f', .slice B1 n1 d1, .slice B2 n2 d2, .slice B3 n3 d3] : Array Value) = cv (ap c ⟨1, 0, 0, b⟩) v' from hcs]
        have hok1 : Ok 13 (ap c ⟨1, 0, 0, b⟩) := ok_ap HOK.out (.inl ⟨rfl, rfl, rfl, hb3⟩) (by simp [fitB])
        have hso : sO (ap c ⟨1, 0, 0, b⟩) = true := (so_iff hok1).2 (by rw [newest_pub]; exact HEV.out)
        have hbwa : Below w.heap.size w wa := HB1.out.grown GA.out HB1.out.size (fun k e => by cases e; exact Nat.le_refl _)
        have HBB := Lib.hid (below_setRow (hbwa.trans (HOUT.out.2.mono hbwa.size)) (show w.heap.size ≤ Q by omega) (cv (ap c ⟨1, 0, 0, b⟩) v'))
        have HCW := Lib.hid (hcl.set (show Q < wa.heap.size from lQa) (cv (ap c ⟨1, 0, 0, b⟩) v'))
        have HQW := Lib.hid (setRow_heap _ _ _ (cv (ap c ⟨1, 0, 0, b⟩) v') _ _ QB.out)
        have hse := synced_enough hok1 hso _ rfl
        have hmlt := ms_lt (ap c ⟨1, 0, 0, b⟩) (ans (ap c ⟨1, 0, 0, b⟩) (ap c ⟨1, 0, 0, b⟩).r.length) (ap c ⟨1, 0, 0, b⟩).r.length
        have hmle := ms_le (ap c ⟨1, 0, 0, b⟩) (ans (ap c ⟨1, 0, 0, b⟩) (ap c ⟨1, 0, 0, b⟩).r.length) (ap c ⟨1, 0, 0, b⟩).r.length
        have hr3 := hok1.r2
        have HOK1 := Lib.hid hok1
        have HSE := Lib.hid hse
        have HMLT := Lib.hid hmlt
        clear hcs hcl hok1 hso hbwa hse hmlt x0 x1 x2 x3 y0 y1 y2 y3 yf c0 c0' c1 c2 c3 hmul
        generalize wb.setRow Q (cv (ap c ⟨1, 0, 0, b⟩) v') = W at *
        generalize ap c ⟨1, 0, 0, b⟩ = C at *
        obtain ⟨c0, c1, c2, c3⟩ := cvCells _ _ _ _ _ _ HQW.out
        go_wp2_with fail
        refine (all_x HCW.out HOK1.out (by omega)).mono ?_
        rintro e w4 ⟨A, cc, rfl, hrow, hb4⟩
        have Q4 := Lib.hid ((hb4.block Q (row_lt HQW.out)).trans HQW.out)
        have HB4 := Lib.hid (HBB.out.trans (hb4.mono HBB.out.size))
        have HC4 := Lib.hid (HCW.out.below hb4)
        have HROW := Lib.hid hrow
        clear hb4 hrow c0 c1 c2 c3
        obtain ⟨c0, c1, c2, c3⟩ := cvCells _ _ _ _ _ _ Q4.out
        go_wp2_with fail
        refine (missing_x HC4.out HOK1.out HROW.out (by omega) (by omega)).mono ?_
        rintro e w5 ⟨A', cc', rfl, hrow5, hb5⟩
        have Q5 := Lib.hid ((hb5.block Q (row_lt Q4.out)).trans Q4.out)
        have HB5 := Lib.hid (HB4.out.trans (hb5.mono HB4.out.size))
        have HC5 := Lib.hid ((HC4.out.below hb5).base (Nat.zero_le _))
        have HM5 := Lib.hid (hrow5.base (show Q + 1 ≤ w4.heap.size from row_lt Q4.out))
        clear hb5 hrow5 c0 c1 c2 c3
        generalize ms C (ans C C.r.length) C.r.length = M at *
        go_wp2_with fail
        go_loopw [45] (fun ii wr => ∃ k : Nat, k ≤ M.length ∧ ii = .int .i64 k ∧ ∃ vk, wr.heap[Q]? = some (.cells (cv (sy C M k) vk) 25 (0, 0)) ∧ CL wr 0 (sy C M k) vk ∧ Below w.heap.size w wr ∧ Row wr (Q + 1) 1 A' M.length (iv M)) (fun ii _ => M.length - (intOf ii).toNat)
        case atStart => exact ⟨0, by omega, rfl, v', Q5.out, HC5.out, HB5.out, HM5.out⟩
        case round =>
          obtain ⟨k, hk, rfl, vk, hq, hcl, hbl, hmr⟩ := hrel
          have hokk := ok_sys HOK1.out HMLT.out k hk
          have hrl := sy_r C M k
          have HQK := Lib.hid hq
          have HCK := Lib.hid hcl
          have HBK := Lib.hid hbl
          have HMK := Lib.hid hmr
          have HOKK := Lib.hid hokk
          have lq := row_lt hq
          clear hq hcl hbl hmr hokk
          obtain ⟨c0, c1, c2, c3⟩ := cvCells _ _ _ _ _ _ HQK.out
          by_cases hlt : k < M.length
          · obtain ⟨bm, om, hA, hBm, hlm, d0⟩ := HMK.out.int hlt
            have hx := HMLT.out k hlt
            have HNX := Lib.hid (show sy C M (k + 1) = sy1 (sy C M k) (M.getD k 0) from rfl)
            rw [← hrl] at hx
            generalize sy C M k = D at *
            generalize M.getD k 0 = x at *
            have i0 : (0 : Int) ≤ (k : Int) := by omega
            have i1 : (k : Int) < (M.length : Int) := by omega
            have i2 : decide ((x : Int) < 0) = false := decide_eq_false (by omega)
            have i3 : decide ((D.r.length : Int) ≤ (x : Int)) = false := decide_eq_false (by omega)
            have i4 : decide (D.r.length ≤ x) = false := decide_eq_false (by omega)
            have HHX := Lib.hid hx
            have HRL := Lib.hid hrl
            clear hx hrl
            rw [hA]
            have HHA := Lib.hid hA
            clear hA
            go_wp2_with fail
            refine (sync_x HCK.out HOKK.out HHX.out (by omega)).mono ?_
            rintro e w7 ⟨v7, rfl, hc7, hb7⟩
            have Q7 := Lib.hid ((hb7.block Q lq).trans HQK.out)
            have HB7 := Lib.hid (below_setRow (HBK.out.trans (hb7.mono HBK.out.size)) (show w.heap.size ≤ Q by omega) (cv (sy1 D x) v7))
            have HC7 := Lib.hid ((hc7.set lq (cv (sy1 D x) v7)).base (Nat.zero_le _))
            have HM7 := Lib.hid ((HMK.out.below hb7).set (Nat.lt_succ_self Q) (cv (sy1 D x) v7))
            have HQ7 := Lib.hid (setRow_heap _ _ _ (cv (sy1 D x) v7) _ _ Q7.out)
            clear hb7 hc7 c0 c1 c2 c3 d0
            go_wp2_with (refine wpList_store_row (o := ⟨none, .store 25 (.tmp 4) (.tmp 63), _, _, _, _⟩) rfl 25 (.tmp 4) (.tmp 63) rfl Q (cv (sy1 D x) v7) rfl rfl 25 (cv D vk) Q7.out (info25 _ _) rfl (cv_one _ _) ?_)
            exact ⟨⟨k + 1, by omega, by go_num, v7, by rw [HNX.out]; exact HQ7.out, by rw [HNX.out]; exact HC7.out, HB7.out, by rw [← HHA.out]; exact HM7.out⟩, by simp [intOf]; omega⟩
          · obtain rfl : k = M.length := by omega
            have hr4 : (sy C M M.length).r.length ≤ 3 := by omega
            have hen := HSE.out
            have hml := enough_len hen
            have HEN := Lib.hid hen
            have HML := Lib.hid hml
            clear hen hml hrl
            generalize sy C M M.length = D at *
            go_wp2_with fail
            refine (all_x HCK.out HOKK.out (by omega)).mono ?_
            rintro e w8 ⟨A8, cc8, rfl, hrow8, hb8⟩
            have Q8 := Lib.hid ((hb8.block Q lq).trans HQK.out)
            have HB8 := Lib.hid (HBK.out.trans (hb8.mono HBK.out.size))
            have HC8 := Lib.hid (HCK.out.below hb8)
            have HROW8 := Lib.hid hrow8
            clear hb8 hrow8 c0 c1 c2 c3
            obtain ⟨c0, c1, c2, c3⟩ := cvCells _ _ _ _ _ _ Q8.out
            go_wp2_with fail
            refine (enough_x HC8.out HOKK.out HROW8.out (by omega) (by omega)).mono ?_
            rintro e w9 ⟨rfl, hb9⟩
            rw [HEN.out]
            have Q9 := Lib.hid ((hb9.block Q (row_lt Q8.out)).trans Q8.out)
            have HB9 := Lib.hid (HB8.out.trans (hb9.mono HB8.out.size))
            have HC9 := Lib.hid (HC8.out.below hb9)
            have HROW9 := Lib.hid (HROW8.out.below hb9)
            clear hb9 c0 c1 c2 c3
            obtain ⟨c0, c1, c2, c3⟩ := cvCells _ _ _ _ _ _ Q9.out
            go_wp2_with fail
            refine (missing_x HC9.out HOKK.out HROW9.out (by omega) (by omega)).mono ?_
            rintro e w10 ⟨A10, cc10, rfl, -, hb10⟩
            rw [HML.out]
            have HB10 := Lib.hid (HB9.out.trans (hb10.mono HB9.out.size))
            clear hb10 c0 c1 c2 c3
            go_wp2_with fail
            refine (awake38 _).mono ?_
            rintro e w11 ⟨rfl, hb11⟩
            have HB11 := Lib.hid (HB10.out.trans (hb11.mono HB10.out.size))
            clear hb11
            go_wp2_with fail
            go_ret
            exact ⟨rfl, HB11.out⟩
      · exact absurd hfit (by simp [fitB])

/-! ### THE ROW's STEP: WRITTEN OUT: LEAVE IT -/
set_option maxRecDepth 100000 in
theorem lifted (os : Os) (started : os.Started) (H : Type) (enc : TypeId × Value → H) :
    ReturnsInHanded {} Try.checked os 11 .any (Rows.probeMissingSpec.pre6 enc Try.prog Try.f11 Rows.probeMissingRow.domain false) (Rows.probeMissingSpec.post enc Try.prog Try.f11 false true false false) := by
  refine returnsInHanded_of_change (C := Try.checked) own started (by kernel_rfl) Try.func11
    (ChangeSpec.witness6 (enc := enc) (C := Try.checked) false ⟨#[], #[.slice none 0 0], []⟩ 8 (by kernel_rfl) (by kernel_rfl) (by kernel_rfl) (by kernel_rfl)) ?_
  intro W base args ds gs before hval0 hW hcnd _
  have hval : ∀ (j : Nat) t v, Try.f11.params[j]? = some t → args[j]? = some v → Value.okWide Try.prog W .any base t v := hval0
  have hW' := hW
  obtain ⟨p, q, hA0, hV, rfl, hfz, hnd⟩ := hW
  have hA : DataW.TrodAll enc Try.prog W 0 (fun _ => true) true Try.f11.params.toList args.toList ds p := hA0
  rw [Try.params11] at hA hval
  obtain ⟨v0, vs0, d0, ds0, p0, q0, hargs, rfl, rfl, h0, r0⟩ := trodAll_cons hA
  obtain ⟨rfl, rfl, rfl⟩ := trodAll_nil r0
  obtain rfl : args = #[v0] := by cases args; simp_all
  obtain ⟨rfl, rfl⟩ := trodVars_none hV
  obtain ⟨a0, len0, cap0, rfl⟩ := okWide_slice Try.underlying22 (hval 0 22 v0 rfl rfl)
  have k0 := h0
  have lt0 : ∀ x ∈ p0, x.block < W.heap.size := by obtain ⟨m, hm⟩ := k0; exact DataW.trod_lt m _ _ _ hm
  obtain ⟨z0, w0⟩ : ∃ zs, IsRow .i64 W a0 len0 cap0 zs := by
    obtain ⟨fuel, hf⟩ := h0
    rcases open_ints Try.underlying22 Try.underlying3 (by kernel_rfl) hf with ⟨hcs, _⟩ | ⟨x, l, c, zs, hcs, _, hl, hm, hz, _, hcell, hwz⟩
    · simp [Value.cells] at hcs
      obtain ⟨rfl, rfl, rfl⟩ := hcs
      exact ⟨[], .inl ⟨rfl, rfl, rfl, rfl⟩⟩
    · simp [Value.cells] at hcs
      obtain ⟨rfl, rfl, rfl⟩ := hcs
      exact ⟨zs, .inr ⟨_, rfl, hl, hm, by simpa using hz, hcell, hwz⟩⟩
  clear hA0 hval0
  refine (walk a0 len0 cap0 z0 W w0).mono fun e W' ⟨he, bel⟩ => ?_
  subst he
  exact ⟨_, rfl, _, _, _, [], _, [], hW', trodAll_mk1 (shut_bool Try.underlying4 _), (trodAll_cons_mk (Below.trod laidOut (by kernel_rfl) (of_decide_eq_true (by kernel_rfl)) k0 bel lt0) trodAll_mk0), rfl, bel.frame _, fun h => by cases h⟩

theorem over : Rows.probeMissingRow.holds Try.pinned (OpenSpec.ofChange Rows.probeMissingSpec) :=
  OpenClaim.holds_of_wide 11 Try.f11 rfl rfl rfl rfl rfl rfl rfl ⟨rfl, rfl, rfl, rfl, rfl⟩ rfl rfl rfl rfl rfl (by kernel_rfl) Try.func11 (by kernel_rfl)
    (of_decide_eq_true (by kernel_rfl)) (by unfold Func.isWrapper; first | (rw [if_pos (by decide +kernel)]; kernel_rfl) | (rw [if_neg (by decide +kernel)]; exact ⟨rfl, rfl⟩))
    (fun os started H enc _ => lifted os started H enc)

/-- ████ THE STATEMENT ████ -/
theorem proved : Rows.ProbeMissingSaid := over
#print axioms proved
end Go.Proofs.Ytamcjhibdcbdnaa.probeMissing
