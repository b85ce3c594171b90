/-
  The Go function leakresponselaw12.DeltaFormats returns true for every list of numbers and every list of operations, and leaves what was there as it was; no conditions.
-/
import Derived.Test.YtgaliinjjonlmaaDtRaw4
import Derived.Test.YtgaliinjjonlmaaDtBent
import Derived.Test.YtgaliinjjonlmaaRows
import Derived.Test.YtgaliinjjonlmaaDtArgR
import Derived.Deep.Slices
import Derived.WalkKit
import Derived.ProofKit
import Derived.OpenShut
import Derived.ShutString
import Derived.ChangeOld
import Derived.Below
namespace Go.Proofs.Ytgaliinjjonlmaa.deltaFormats
open Go.ChangeShapes Go.WideShapes Go.ChangeAt Go.RowKit
open Go.ChangeMaps (open_string shut_string)
open Go.Proofs.Ytgaliinjjonlmaa.Tp
open Go.Proofs.Ytgaliinjjonlmaa.Dt
set_option linter.unusedVariables false

/-- A row of the three. -/
def RowAt (w : World) (H i : Nat) : Prop := ∃ (A : Option Addr) (n c : Nat) (rs : List R) (vs : List Value), w.cell? ⟨H, i, none⟩ = some (.slice A n c) ∧ RLies w A n rs vs ∧ n ≤ maxLen

theorem RowAt.below {w w' : World} {H i : Nat} (h : RowAt w H i) (hH : H < w.heap.size) (hb : Below w.heap.size w w') : RowAt w' H i := by
  obtain ⟨A, n, c, rs, vs, h1, h2, h3⟩ := h
  exact ⟨A, n, c, rs, vs, (hb.cell (p := ⟨H, _, none⟩) hH).trans h1, h2.below hb, h3⟩

theorem rows_new {w : World} {A B X : Option Addr} {n m k ca cb cx : Nat} {rs qs xs : List R} {vs us ys : List Value} (ha : RLies w A n rs vs) (hb : RLies w B m qs us) (hx : RLies w X k xs ys) (h1 : n ≤ maxLen) (h2 : m ≤ maxLen) (h3 : k ≤ maxLen) (i : Nat) (hi : i < 3) :
    RowAt (w.alloc (.cells #[.slice A n ca, .slice B m cb, .slice X k cx] 24)) w.heap.size i := by
  have hn := heap_alloc_new w (.cells #[.slice A n ca, .slice B m cb, .slice X k cx] 24)
  have hb' := box_below w (.cells #[.slice A n ca, .slice B m cb, .slice X k cx] 24)
  rcases (by omega : i = 0 ∨ i = 1 ∨ i = 2) with rfl | rfl | rfl
  · exact ⟨A, n, ca, rs, vs, by rw [cell_of_row _ _ _ _ _ _ hn]; rfl, ha.below hb', h1⟩
  · exact ⟨B, m, cb, qs, us, by rw [cell_of_row _ _ _ _ _ _ hn]; rfl, hb.below hb', h2⟩
  · exact ⟨X, k, cx, xs, ys, by rw [cell_of_row _ _ _ _ _ _ hn]; rfl, hx.below hb', h3⟩

theorem fres_conv {w w' : World} {rs : List R} {n : Nat} {v : Value} (hb : ∀ b ∈ fmtB rs n, b ≤ 255) (h : w'.ownsRow w.heap.size 5 1 v (fmtB rs n).length (u8s (fmtB rs n))) : By w' v (fmtB rs n) := (by_own h rfl hb).1

theorem fmtB_bytes {w : World} {A : Option Addr} {n : Nat} {rs : List R} {vs : List Value} (h : RLies w A n rs vs) : ∀ b ∈ fmtB rs n, b ≤ 255 := by
  have hn : ∀ k, ∀ b ∈ num k, b ≤ 255 := fun k b hb => by
    simp [num] at hb
    omega
  have hm : ∀ m, m ≤ n → ∀ b ∈ fmR rs m, b ≤ 255 := by
    intro m
    induction m with
    | zero => intro _ b hb; simp [fmR] at hb
    | succ m ih =>
      intro hm b hb
      rcases List.mem_append.1 hb with hb | hb
      · exact ih (by omega) b hb
      · unfold fmr at hb
        split at hb
        · rcases List.mem_append.1 hb with hb | hb
          · rcases List.mem_append.1 hb with hb | hb
            · simp at hb
              omega
            · exact hn _ b hb
          · exact hn _ b hb
        · rcases List.mem_append.1 hb with hb | hb
          · rcases List.mem_append.1 hb with hb | hb
            · simp at hb
              omega
            · exact hn _ b hb
          · exact (h.by_ m (by omega)).1 b hb
  intro b hb
  unfold fmtB at hb
  split at hb
  · exact hm n (Nat.le_refl _) b hb
  · simp at hb

set_option maxRecDepth 100000 in
set_option maxHeartbeats 4000000 in
theorem walk (a0 : Option Addr) (len0 cap0 : Nat) (z0 : List Int) (a1 : Option Addr) (len1 cap1 : Nat) (xs : List R) (ys : List Value) (w : World) (w0 : IsRow .i64 w a0 len0 cap0 z0) (hx : RLies w a1 len1 xs ys) (hx1 : len1 ≤ maxLen) :
    Calls Try.prog 5 #[.slice a0 len0 cap0, .slice a1 len1 cap1] w fun e w' => e = .returned (.bool true) ∧ Below w.heap.size w w' := by
  have htp := tape_new w0
  have HTP := Lib.hid htp
  have HBX := Lib.hid (box_below w (.cells #[.slice a0 len0 cap0, .int .i64 0] 27))
  have HX := Lib.hid hx
  have HX1 := Lib.hid hx1
  clear w0 htp hx hx1
  go_enter Try.func5, Try.ntmps5
  go_wp2_with fail
  refine (ops_any w.heap.size 40 _ HTP.out (by simp) (by omega)).mono ?_
  rintro e w1 ⟨ps, v, rfl, hpl, hop⟩
  have hs1 := hop.gr.size
  simp at hs1
  obtain ⟨A, ca, e, hol⟩ := olies_of hop.row hop.by_
  subst e
  have HOP := Lib.hid hop
  clear hop hol
  go_wp2_with fail
  refine (bent_any w.heap.size _ w1 ps _ HOP.out.row HOP.out.by_ (fun p hp b off n c e => by have := (HOP.out.ne p hp b off n c e).2; simp at this; omega) (by omega) HOP.out.tp (by omega)).mono ?_
  rintro e w2 ⟨x, dv, B, cb, rfl, hrl, hxl, hg2, ht2⟩
  have hop2 := HOP.out.tape (by simp) hg2 ht2
  obtain ⟨A', ca', e, hol⟩ := olies_of hop2.row hop2.by_
  cases e
  have hb2 : Below w.heap.size w w2 := HBX.out.grown hop2.gr HBX.out.size (fun k e => by cases e; exact Nat.le_refl _)
  have hrows := rows_new (ca := ca) (cb := cb) (cx := cap1) hol.raw hrl (HX.out.below hb2) (by unfold maxLen; omega) (by unfold maxLen; omega) HX1.out
  obtain ⟨H, hH⟩ : ∃ H, w2.heap.size = H := ⟨_, rfl⟩
  obtain ⟨wp, hwp⟩ : ∃ wp, w2.alloc (.cells #[.slice A ps.length ca, .slice B (ps.length + 1) cb, .slice a1 len1 cap1] 24) = wp := ⟨_, rfl⟩
  have hHp : H < wp.heap.size := by rw [← hwp, ← hH]; simp
  have hblp : Below w.heap.size w wp := by rw [← hwp]; exact hb2.alloc hb2.size _
  rw [hwp, hH] at hrows
  have HPA := Lib.hid hrows
  have HBP := Lib.hid hblp
  have HWP := Lib.hid hwp
  have HH := Lib.hid hH
  clear hrows hblp hwp hH hb2 hol hop2 hrl hg2 ht2 HOP HTP HBX HX HX1
  go_wp2_with fail
  rw [HWP.out, HH.out]
  go_loopw [25] (fun ii wr => ∃ i : Nat, i ≤ 3 ∧ ii = .int .i64 i ∧ Below wp.heap.size wp wr) (fun ii _ => 3 - (intOf ii).toNat)
  case atStart => exact ⟨0, by omega, rfl, Below.refl _ _⟩
  case round =>
    obtain ⟨i, hi, rfl, hb⟩ := hrel
    have HB := Lib.hid hb
    by_cases hlt : i < 3
    · obtain ⟨L, n, c, rs, vs, c0, hrl, hn⟩ := (HPA.out i hlt).below hHp hb
      have HRL := Lib.hid hrl
      have HFW := Lib.hid (few_any L n c rs vs wr hrl hn)
      clear hb hrl hn
      go_wp2_with fail
      refine HFW.out.mono ?_
      rintro e w3 ⟨q, rfl, hq, hb3⟩
      have HB3 := Lib.hid (HB.out.trans (hb3.mono HB.out.size))
      cases q
      · clear hq hb3
        go_wp2_with fail
        exact ⟨⟨i + 1, by omega, by go_num, HB3.out⟩, by simp [intOf]; omega⟩
      · have hrl3 := HRL.out.below hb3
        have HF := Lib.hid (format_raw L n c rs vs w3 hrl3 hq)
        have HR := Lib.hid (fun W (hW : Below w3.heap.size w3 W) => refformat_raw L n c rs vs W (hrl3.below hW) hq)
        have HBY := Lib.hid (fmtB_bytes hrl3)
        clear hq hb3 hrl3
        generalize hE : fmtE rs n = E at *
        go_wp2_with fail
        refine HF.out.mono ?_
        rintro e w4 ⟨v1, rfl, hrow1, hb4⟩
        have hy1 := fres_conv HBY.out hrow1
        have HY1 := Lib.hid hy1
        have HB4 := Lib.hid hb4
        clear hrow1 hb4 hy1
        go_wp2_with fail
        refine (HR.out _ HB4.out).mono ?_
        rintro e w5 ⟨v2, rfl, hrow2, hb5⟩
        have q1 := conv_by (HY1.out.below hb5)
        have q2 := conv_by (fres_conv HBY.out hrow2)
        have HB5 := Lib.hid (HB3.out.trans ((HB4.out.trans (hb5.mono HB4.out.size)).mono HB3.out.size))
        clear hrow2 hb5
        generalize strB (fmtB rs n) = SS at *
        go_wp2_with fail
        exact ⟨⟨i + 1, by omega, by go_num, HB5.out⟩, by simp [intOf]; omega⟩
    · obtain rfl : i = 3 := by omega
      have HA1 := Lib.hid (awake_any wr)
      clear hb
      go_wp2_with fail
      refine HA1.out.mono ?_
      rintro e w3 ⟨rfl, hb3⟩
      have HB3 := Lib.hid (HB.out.trans (hb3.mono HB.out.size))
      clear hb3
      go_wp2_with fail
      go_ret
      exact ⟨rfl, HBP.out.trans (HB3.out.mono HBP.out.size)⟩

/-! ### THE ROW's STEP: WRITTEN OUT: LEAVE IT -/
set_option maxRecDepth 100000 in
theorem lifted (os : Os) (started : os.Started) (H : Type) (enc : TypeId × Value → H) :
    ReturnsInHanded {} Try.checked os 5 .any (Rows.deltaFormatsSpec.pre6 enc Try.prog Try.f5 Rows.deltaFormatsRow.domain false) (Rows.deltaFormatsSpec.post enc Try.prog Try.f5 false true false false) := by
  refine returnsInHanded_of_change (C := Try.checked) own started (by kernel_rfl) Try.func5
    (ChangeSpec.witness6 (enc := enc) (C := Try.checked) false ⟨#[], #[.slice none 0 0, .slice none 0 0], []⟩ 8 (by kernel_rfl) (by kernel_rfl) (by kernel_rfl) (by kernel_rfl)) ?_
  intro W base args ds gs before hval0 hW hcnd _
  have hval : ∀ (j : Nat) t v, Try.f5.params[j]? = some t → args[j]? = some v → Value.okWide Try.prog W .any base t v := hval0
  have hW' := hW
  obtain ⟨p, q, hA0, hV, rfl, hfz, hnd⟩ := hW
  have hA : DataW.TrodAll enc Try.prog W 0 (fun _ => true) true Try.f5.params.toList args.toList ds p := hA0
  rw [Try.params5] at hA hval
  obtain ⟨v0, vs0, d0, ds0, p0, q0, hargs, rfl, rfl, h0, r0⟩ := trodAll_cons hA
  obtain ⟨v1, vs1, d1, ds1, p1, q1, rfl, rfl, rfl, h1, r1⟩ := trodAll_cons r0
  obtain ⟨rfl, rfl, rfl⟩ := trodAll_nil r1
  obtain rfl : args = #[v0, v1] := by cases args; simp_all
  obtain ⟨rfl, rfl⟩ := trodVars_none hV
  obtain ⟨a0, len0, cap0, rfl⟩ := okWide_slice Try.underlying22 (hval 0 22 v0 rfl rfl)
  have k0 := h0
  have lt0 : ∀ x ∈ p0, x.block < W.heap.size := by obtain ⟨m, hm⟩ := k0; exact DataW.trod_lt m _ _ _ hm
  obtain ⟨z0, w0⟩ : ∃ zs, IsRow .i64 W a0 len0 cap0 zs := by
    obtain ⟨fuel, hf⟩ := h0
    rcases open_ints Try.underlying22 Try.underlying3 (by kernel_rfl) hf with ⟨hcs, _⟩ | ⟨x, l, c, zs, hcs, _, hl, hm, hz, _, hcell, hwz⟩
    · simp [Value.cells] at hcs
      obtain ⟨rfl, rfl, rfl⟩ := hcs
      exact ⟨[], .inl ⟨rfl, rfl, rfl, rfl⟩⟩
    · simp [Value.cells] at hcs
      obtain ⟨rfl, rfl, rfl⟩ := hcs
      exact ⟨zs, .inr ⟨_, rfl, hl, hm, by simpa using hz, hcell, hwz⟩⟩
  obtain ⟨a1, len1, cap1, rfl⟩ := okWide_slice Try.underlying24 (hval 1 24 v1 rfl rfl)
  have k1 := h1
  have lt1 : ∀ x ∈ p1, x.block < W.heap.size := by obtain ⟨m, hm⟩ := k1; exact DataW.trod_lt m _ _ _ hm
  obtain ⟨hx1, xs, ys, hx⟩ : len1 ≤ maxLen ∧ ∃ rs vs, RLies W a1 len1 rs vs := by
    obtain ⟨fuel, hf⟩ := h1
    exact rlies_arg hf (arg_lt Try.underlying24 (hval 1 24 _ rfl rfl))
  clear hA0 hval0
  refine (walk a0 len0 cap0 z0 a1 len1 cap1 xs ys W w0 hx hx1).mono fun e W' ⟨he, bel⟩ => ?_
  subst he
  exact ⟨_, rfl, _, _, _, [], _, [], hW', trodAll_mk1 (shut_bool Try.underlying4 _), (trodAll_cons_mk (Below.trod laidOut (by kernel_rfl) (of_decide_eq_true (by kernel_rfl)) k0 bel lt0) (trodAll_cons_mk (Below.trod laidOut (by kernel_rfl) (of_decide_eq_true (by kernel_rfl)) k1 bel lt1) trodAll_mk0)), rfl, bel.frame _, fun h => by cases h⟩

theorem over : Rows.deltaFormatsRow.holds Try.pinned (OpenSpec.ofChange Rows.deltaFormatsSpec) :=
  OpenClaim.holds_of_wide 5 Try.f5 rfl rfl rfl rfl rfl rfl rfl ⟨rfl, rfl, rfl, rfl, rfl⟩ rfl rfl rfl rfl rfl (by kernel_rfl) Try.func5 (by kernel_rfl)
    (of_decide_eq_true (by kernel_rfl)) (by unfold Func.isWrapper; first | (rw [if_pos (by decide +kernel)]; kernel_rfl) | (rw [if_neg (by decide +kernel)]; exact ⟨rfl, rfl⟩))
    (fun os started H enc _ => lifted os started H enc)

/-- ████ THE STATEMENT ████ -/
theorem proved : Rows.DeltaFormatsSaid := over
#print axioms proved
end Go.Proofs.Ytgaliinjjonlmaa.deltaFormats
