/-
  The Go function leakresponse/leakresponselaw29.CopiesStays returns true for every list of numbers, and leaves what was there as it was; no conditions. Stays are in order, not empty, and those of a place do not touch.
-/
import Derived.Test.YtfdmneceecaocaaAcI
import Derived.Test.YtfdmneceecaocaaAcJ
import Derived.Test.YtfdmneceecaocaaDjF
import Derived.Test.YtfdmneceecaocaaRows
import Derived.Test.YtfdmneceecaocaaCoO
import Derived.Test.YtfdmneceecaocaaCoP
import Derived.BigQuiet
import Derived.WalkKit
import Derived.ProofKit
import Derived.OpenShut
import Derived.ShutString
import Derived.ChangeOld
import Derived.Below
import Derived.StillTailTactics
import Derived.Deep.CutBlock
namespace Go.Proofs.Ytfdmneceecaocaa.copiesStays
open Go.ChangeShapes Go.WideShapes Go.ChangeAt Go.RowKit
open Go.ChangeMaps (open_string shut_string)
open Go.Proofs.Ytfdmneceecaocaa.Tp
open Go.Proofs.Ytfdmneceecaocaa.Di
set_option linter.unusedVariables false

set_option maxRecDepth 100000 in
set_option maxHeartbeats 8000000 in
theorem walk (a0 : Option Addr) (len0 cap0 : Nat) (z0 : List Int) (w : World) (w0 : IsRow .i64 w a0 len0 cap0 z0) :
    Calls Try.prog 11 #[.slice a0 len0 cap0] w fun e w' => e = .returned (.bool true) ∧ Below w.heap.size w w' := by
  have hm := w0.at_.1
  unfold maxLen at hm
  have HTP := Lib.hid (tape_new w0)
  have HBX := Lib.hid (box_below w (.cells #[.slice a0 len0 cap0, .int .i64 0] 29))
  clear w0
  by_cases hlen : 300 < len0
  · have hl0 : (300 : Int) < (len0 : Int) := by omega
    go_enter Try.func11, Try.ntmps11
    go_wp2_with (go_at_call 32; refine (awake29_any _).mono ?_; rintro e w1 ⟨rfl, hb1⟩; have HB1 := Lib.hid hb1; clear hb1)
    go_ret
    exact ⟨rfl, HB1.out⟩
  · have hl0 : (len0 : Int) ≤ (300 : Int) := by omega
    go_enter Try.func11, Try.ntmps11
    go_wp2_with fail
    refine (directory_any w.heap.size _ HTP.out (by simp)).mono ?_
    rintro e w1 ⟨d, v, rfl, hmk, hrl, hg1, ht1⟩
    have hb1 : Below w.heap.size w w1 := HBX.out.grown hg1 HBX.out.size (fun k e => by cases e; exact Nat.le_refl _)
    have hs1 := hg1.size
    simp at hs1
    have HB1 := Lib.hid hb1
    have HT1 := Lib.hid ht1
    have hn1 := hmk.n1
    have hn7 := hmk.n7
    clear hrl hg1 ht1 hb1 hmk
    go_wp2_with fail
    refine (estate_any w.heap.size d v w1 HT1.out (by omega) hn1 hn7).mono ?_
    rintro e w2 ⟨a, ⟨A, vc⟩, rfl, hme, hel, hg2, ht2⟩
    have hb2 : Below w.heap.size w w2 := HB1.out.grown hg2 HB1.out.size (fun k e => by cases e; exact Nat.le_refl _)
    have hs2 : w.heap.size + 1 ≤ w2.heap.size := by have := hg2.size; omega
    have HQ := Lib.hid (heap_alloc_new w2 (.cells (ge a ⟨A, vc⟩) 25))
    have HEL := Lib.hid (Row.below (hel.base (show w.heap.size + 1 ≤ _ by omega)) (box_below w2 (.cells (ge a ⟨A, vc⟩) 25)))
    have HB2 := Lib.hid (hb2.trans ((box_below w2 (.cells (ge a ⟨A, vc⟩) 25)).mono hb2.size))
    have HT2 := Lib.hid (tape_new2 ht2 (.cells (ge a ⟨A, vc⟩) 25))
    have HME := Lib.hid hme
    have ha1 := hme.ok.n1
    have ha4 := hme.n4
    have ha15 := hme.m15
    clear hel hg2 ht2 hb2 hme HB1 HT1 HBX HTP
    obtain ⟨g0, g1⟩ := geCells HQ.out
    go_wp2_with (with_reducible (show wpList _ _ _ (⟨none, .store 25 (.tmp 4) (.tmp 19), _, _, _, _⟩ :: _) _ _); refine wpList_store_row (o := ⟨none, .store 25 (.tmp 4) (.tmp 19), _, _, _, _⟩) rfl 25 (.tmp 4) (.tmp 19) rfl w2.heap.size (ge a ⟨A, vc⟩) rfl rfl 25 zE (heap_alloc_new _ _) (infoEs _ _) rfl (ge_one _ _) ?_; rw [new_set])
    have lQ : w2.heap.size < (w2.alloc (.cells (ge a ⟨A, vc⟩) 25)).heap.size := row_lt HQ.out
    generalize w2.alloc (.cells (ge a ⟨A, vc⟩) 25) = W1 at *
    generalize w2.heap.size = Q at *
    have HOK := Lib.hid HME.out.ok
    obtain ⟨n, hn⟩ : ∃ n : Nat, a.n = (n : Int) := ⟨a.n.toNat, by omega⟩
    have hn6 : n ≤ 4 := by omega
    have HE0 := Lib.hid (Row.base (B' := 0) HEL.out (Nat.zero_le _))
    have HSY := Lib.hid (fun (c : Nat) (hc : c < 3) w' (hb : Below W1.heap.size W1 w') => (by
      have h := stays_any a ⟨A, vc⟩ (c : Int) n w' (Row.below HE0.out hb) HOK.out hn (by omega)
      unfold StPost at h
      exact h : Calls Try.prog 38 #[.agg (ge a ⟨A, vc⟩), .int .i64 (c : Int)] w' fun e w2 => ∃ A cc, e = .returned (.slice A (stL a c n).length cc) ∧ w2.ownsRow w'.heap.size 66 3 (.slice A (stL a c n).length cc) (stL a c n).length (sv (stL a c n)) ∧ Below w'.heap.size w' w2))
    have HGD := Lib.hid (fun (c : Nat) => (⟨stL_gd HOK.out (c : Int) n, stL_len a (c : Int) (by omega)⟩ : Gd (n : Int) (stL a c n) ∧ (stL a c n).length ≤ 1920))
    have HF := Lib.hid (show (#[.int .i64 a.n, .slice A a.e.length vc] : Array Value) = ge a ⟨A, vc⟩ from rfl)
    have HAN := Lib.hid hn
    clear hn HT2 HEL
    go_wp2_with fail
    go_loopw [5] (fun ci wr => ∃ c : Nat, c ≤ 3 ∧ ci = .int .i64 (c : Int) ∧ Below W1.heap.size W1 wr) (fun ci _ => (3 - (intOf ci).toNat))
    case atStart => exact ⟨0, by omega, rfl, Below.refl _ _⟩
    case round =>
      obtain ⟨c, hc, rfl, hbl⟩ := hrel
      rename World => wv
      have HBV := Lib.hid hbl
      have HQV := Lib.hid ((hbl.block _ lQ).trans HQ.out)
      clear g0 g1
      obtain ⟨g0, g1⟩ := geCells HQV.out
      by_cases hlc : c < 3
      · have d9 : decide ((c : Int) < 3) = true := decide_eq_true (by omega)
        have HS1 := Lib.hid (HSY.out c hlc wv hbl)
        obtain ⟨hgd, hll⟩ := HGD.out c
        have HG := Lib.hid hgd
        generalize stL a (c : Int) n = L at *
        obtain ⟨ll, hl⟩ : ∃ ll, L.length = ll := ⟨_, rfl⟩
        rw [hl] at HS1 hll
        have HL := Lib.hid hl
        clear hl hgd hbl
        go_wp2_with (go_at_call 38; rw [HF.out]; (with_reducible refine HS1.out.mono ?_); rintro e w3 ⟨X, xc, rfl, hown, hb3⟩; have B3 := Lib.hid (HBV.out.trans (hb3.mono HBV.out.size)); have R3 := Lib.hid ((row_of_own hown).base (Nat.zero_le _)); clear hown hb3 g0 g1)
        go_loopw [29] (fun ii wr => ∃ i : Nat, i ≤ ll ∧ ii = .int .i64 (i : Int) ∧ Below w3.heap.size w3 wr) (fun ii _ => (ll - (intOf ii).toNat))
        case atStart => exact ⟨0, by omega, rfl, Below.refl _ _⟩
        case round =>
          obtain ⟨i, hi, rfl, hbl⟩ := hrel
          rename World => wz
          have BZ := Lib.hid (B3.out.trans (hbl.mono B3.out.size))
          have QZ := Lib.hid ((BZ.out.block _ lQ).trans HQ.out)
          by_cases hli : i < ll
          · obtain ⟨b, off, hX, y0, y1, y2⟩ := (R3.out.below hbl).stay hli
            subst hX
            obtain ⟨hfu, hp0, hpn⟩ := HG.out.one i (by rw [HL.out]; exact hli)
            have h2 := fun j (hj : i = j + 1) => (by have := HG.out.two j (by rw [HL.out]; omega); rwa [← hj] at this : okB (sy L j) (sy L i))
            have H2 := Lib.hid h2
            have HPV := Lib.hid (fun j (hj : j < ll) => (R3.out.below hbl).stay hj)
            clear h2
            generalize sy L i = x at *
            obtain ⟨xp, xf, xu⟩ := x
            simp only at hfu hp0 hpn y0 y1 y2
            have d1 : decide (xu ≤ xf) = false := decide_eq_false (by omega)
            have d2 : decide (xp < 0) = false := decide_eq_false (by omega)
            have d3 : decide ((n : Int) ≤ xp) = false := decide_eq_false (by omega)
            have hbx := box_below wz (.cells #[.int .i64 xp, .int .i64 xf, .int .i64 xu] 66)
            have XN := Lib.hid (heap_alloc_new wz (.cells #[.int .i64 xp, .int .i64 xf, .int .i64 xu] 66))
            have n0 : (wz.alloc (.cells #[.int .i64 xp, .int .i64 xf, .int .i64 xu] 66)).cell? ⟨wz.heap.size, 0, none⟩ = some (.int .i64 xp) := by rw [cell_of_row _ _ _ _ _ _ XN.out]; rfl
            have n1 : (wz.alloc (.cells #[.int .i64 xp, .int .i64 xf, .int .i64 xu] 66)).cell? ⟨wz.heap.size, 1, none⟩ = some (.int .i64 xf) := by rw [cell_of_row _ _ _ _ _ _ XN.out]; rfl
            have n2 : (wz.alloc (.cells #[.int .i64 xp, .int .i64 xf, .int .i64 xu] 66)).cell? ⟨wz.heap.size, 2, none⟩ = some (.int .i64 xu) := by rw [cell_of_row _ _ _ _ _ _ XN.out]; rfl
            have BX := Lib.hid (hbl.trans (hbx.mono hbl.size))
            obtain ⟨g0, g1⟩ := geCells ((hbx.block _ (row_lt QZ.out)).trans QZ.out)
            have hn2 := HAN.out
            have RX := Lib.hid ((R3.out.below hbl).below hbx)
            have i0' : (0 : Int) ≤ (i : Int) := by omega
            have i1' : (i : Int) < (ll : Int) := by omega
            clear hbl hbx
            by_cases h0 : i = 0
            · subst h0
              simp only [Nat.zero_mul, Nat.add_zero] at y0 y1 y2
              go_wp2_with fail
              go_quiet (fail)
              go_wp2_with fail
              exact ⟨⟨1, by omega, by go_num, below_dn BX.out _⟩, by simp [intOf]; omega⟩
            · obtain ⟨j, rfl⟩ : ∃ j, i = j + 1 := ⟨i - 1, by omega⟩
              have hbk := H2.out j rfl
              obtain ⟨b', off', hX', z0, z1, z2⟩ := RX.out.stay (i := j) (by omega)
              cases hX'
              generalize sy L j = z at *
              obtain ⟨zp, zf, zu⟩ := z
              simp only [okB] at hbk z0 z1 z2
              have l0 : (0 : Int) ≤ (j : Int) := by omega
              have l1 : (j : Int) < (ll : Int) := by omega
              have hw0 : IntKind.i64.wrap (j : Int) = (j : Int) := IntWalk.i64_in _ (by omega)
              have hw1 : IntKind.i64.wrap ((j : Int) + 1 - 1) = (j : Int) := by rw [show (j : Int) + 1 - 1 = (j : Int) by omega]; exact hw0
              have e1 : decide (xp < zp) = false := decide_eq_false (by omega)
              by_cases hpp : zp = xp
              · have e2 : (zp == xp) = true := by rw [hpp]; simp
                have e3 : decide (xf ≤ zu) = false := decide_eq_false (by omega)
                clear hbk hpp h0
                go_wp2_with fail
                go_quiet (fail)
                go_wp2_with fail
                exact ⟨⟨j + 1 + 1, by omega, by go_num, below_dn BX.out _⟩, by simp [intOf]; omega⟩
              · have e2 : (zp == xp) = false := beq_eq_false_iff_ne.2 hpp
                clear hbk hpp h0
                go_wp2_with fail
                go_quiet (fail)
                go_wp2_with fail
                exact ⟨⟨j + 1 + 1, by omega, by go_num, below_dn BX.out _⟩, by simp [intOf]; omega⟩
          · obtain rfl : i = ll := by omega
            clear hbl
            go_wp2_with fail
            exact ⟨⟨c + 1, by omega, by go_num, BZ.out⟩, by simp [intOf]; omega⟩
      · have d9 : decide ((c : Int) < 3) = false := decide_eq_false (by omega)
        clear hbl
        go_wp2_with (go_at_call 32; refine (awake29_any _).mono ?_; rintro e w9 ⟨rfl, hb9⟩; have HB9 := Lib.hid (HB2.out.trans ((HBV.out.trans (hb9.mono HBV.out.size)).mono HB2.out.size)); clear hb9)
        go_ret
        exact ⟨by first | rfl | simp, HB9.out⟩

/-! ### THE ROW's STEP: WRITTEN OUT: LEAVE IT -/
set_option maxRecDepth 100000 in
theorem lifted (os : Os) (started : os.Started) (H : Type) (enc : TypeId × Value → H) :
    ReturnsInHanded {} Try.checked os 11 .any (Rows.copiesStaysSpec.pre6 enc Try.prog Try.f11 Rows.copiesStaysRow.domain false) (Rows.copiesStaysSpec.post enc Try.prog Try.f11 false true false false) := by
  refine returnsInHanded_of_change (C := Try.checked) own started (by kernel_rfl) Try.func11
    (ChangeSpec.witness6 (enc := enc) (C := Try.checked) false ⟨#[], #[.slice none 0 0], []⟩ 8 (by kernel_rfl) (by kernel_rfl) (by kernel_rfl) (by kernel_rfl)) ?_
  intro W base args ds gs before hval0 hW hcnd _
  have hval : ∀ (j : Nat) t v, Try.f11.params[j]? = some t → args[j]? = some v → Value.okWide Try.prog W .any base t v := hval0
  have hW' := hW
  obtain ⟨p, q, hA0, hV, rfl, hfz, hnd⟩ := hW
  have hA : DataW.TrodAll enc Try.prog W 0 (fun _ => true) true Try.f11.params.toList args.toList ds p := hA0
  rw [Try.params11] at hA hval
  obtain ⟨v0, vs0, d0, ds0, p0, q0, hargs, rfl, rfl, h0, r0⟩ := trodAll_cons hA
  obtain ⟨rfl, rfl, rfl⟩ := trodAll_nil r0
  obtain rfl : args = #[v0] := by cases args; simp_all
  obtain ⟨rfl, rfl⟩ := trodVars_none hV
  obtain ⟨a0, len0, cap0, rfl⟩ := okWide_slice Try.underlying22 (hval 0 22 v0 rfl rfl)
  have k0 := h0
  have lt0 : ∀ x ∈ p0, x.block < W.heap.size := by obtain ⟨m, hm⟩ := k0; exact DataW.trod_lt m _ _ _ hm
  obtain ⟨z0, w0⟩ : ∃ zs, IsRow .i64 W a0 len0 cap0 zs := by
    obtain ⟨fuel, hf⟩ := h0
    rcases open_ints Try.underlying22 Try.underlying3 (by kernel_rfl) hf with ⟨hcs, _⟩ | ⟨x, l, c, zs, hcs, _, hl, hm, hz, _, hcell, hwz⟩
    · simp [Value.cells] at hcs
      obtain ⟨rfl, rfl, rfl⟩ := hcs
      exact ⟨[], .inl ⟨rfl, rfl, rfl, rfl⟩⟩
    · simp [Value.cells] at hcs
      obtain ⟨rfl, rfl, rfl⟩ := hcs
      exact ⟨zs, .inr ⟨_, rfl, hl, hm, by simpa using hz, hcell, hwz⟩⟩
  clear hA0 hval0
  refine (walk a0 len0 cap0 z0 W w0).mono fun e W' ⟨he, bel⟩ => ?_
  subst he
  exact ⟨_, rfl, _, _, _, [], _, [], hW', trodAll_mk1 (shut_bool Try.underlying4 _), (trodAll_cons_mk (Below.trod laidOut (by kernel_rfl) (of_decide_eq_true (by kernel_rfl)) k0 bel lt0) trodAll_mk0), rfl, bel.frame _, fun h => by cases h⟩

theorem over : Rows.copiesStaysRow.holds Try.pinned (OpenSpec.ofChange Rows.copiesStaysSpec) :=
  OpenClaim.holds_of_wide 11 Try.f11 rfl rfl rfl rfl rfl rfl rfl ⟨rfl, rfl, rfl, rfl, rfl⟩ rfl rfl rfl rfl rfl (by kernel_rfl) Try.func11 (by kernel_rfl)
    (of_decide_eq_true (by kernel_rfl)) (by unfold Func.isWrapper; first | (rw [if_pos (by decide +kernel)]; kernel_rfl) | (rw [if_neg (by decide +kernel)]; exact ⟨rfl, rfl⟩))
    (fun os started H enc _ => lifted os started H enc)

/-- ████ THE STATEMENT ████ -/
theorem proved : Rows.CopiesStaysSaid := over
#print axioms proved
end Go.Proofs.Ytfdmneceecaocaa.copiesStays
