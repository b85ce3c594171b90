/-
  The Go function leakresponse/leakresponselaw27.AccessPlaces returns true for every list of numbers, and leaves what was there as it was; no conditions. What happens to one place changes no grant and no link of another one.
-/
import Derived.Test.YtfdmneceecaocaaAcI
import Derived.Test.YtfdmneceecaocaaAcJ
import Derived.Test.YtfdmneceecaocaaDjF
import Derived.Test.YtfdmneceecaocaaRows
import Derived.Test.YtfdmneceecaocaaAcK
import Derived.WalkKit
import Derived.ProofKit
import Derived.OpenShut
import Derived.ShutString
import Derived.ChangeOld
import Derived.Below
import Derived.StillTailTactics
import Derived.Deep.CutBlock
namespace Go.Proofs.Ytfdmneceecaocaa.accessPlaces
open Go.ChangeShapes Go.WideShapes Go.ChangeAt Go.RowKit
open Go.ChangeMaps (open_string shut_string)
open Go.Proofs.Ytfdmneceecaocaa.Tp
open Go.Proofs.Ytfdmneceecaocaa.Di
set_option linter.unusedVariables false

set_option maxRecDepth 100000 in
set_option maxHeartbeats 8000000 in
theorem walk (a0 : Option Addr) (len0 cap0 : Nat) (z0 : List Int) (w : World) (w0 : IsRow .i64 w a0 len0 cap0 z0) :
    Calls Try.prog 8 #[.slice a0 len0 cap0] w fun e w' => e = .returned (.bool true) ∧ Below w.heap.size w w' := by
  have hm := w0.at_.1
  unfold maxLen at hm
  have HTP := Lib.hid (tape_new w0)
  have HBX := Lib.hid (box_below w (.cells #[.slice a0 len0 cap0, .int .i64 0] 29))
  clear w0
  by_cases hlen : 300 < len0
  · have hl0 : (300 : Int) < (len0 : Int) := by omega
    go_enter Try.func8, Try.ntmps8
    go_wp2_with (go_at_call 14; refine (awake_any _).mono ?_; rintro e w1 ⟨rfl, hb1⟩; have HB1 := Lib.hid hb1; clear hb1)
    go_ret
    exact ⟨rfl, HB1.out⟩
  · have hl0 : (len0 : Int) ≤ (300 : Int) := by omega
    go_enter Try.func8, Try.ntmps8
    go_wp2_with fail
    refine (directory_any w.heap.size _ HTP.out (by simp)).mono ?_
    rintro e w1 ⟨d, v, rfl, hmk, hrl, hg1, ht1⟩
    have hb1 : Below w.heap.size w w1 := HBX.out.grown hg1 HBX.out.size (fun k e => by cases e; exact Nat.le_refl _)
    have hs1 := hg1.size
    simp at hs1
    have HB1 := Lib.hid hb1
    have HT1 := Lib.hid ht1
    have hn1 := hmk.n1
    have hn7 := hmk.n7
    clear hrl hg1 ht1 hb1 hmk
    go_wp2_with fail
    refine (estate_any w.heap.size d v w1 HT1.out (by omega) hn1 hn7).mono ?_
    rintro e w2 ⟨a, ⟨A, vc⟩, rfl, hme, hel, hg2, ht2⟩
    have hb2 : Below w.heap.size w w2 := HB1.out.grown hg2 HB1.out.size (fun k e => by cases e; exact Nat.le_refl _)
    have hs2 : w.heap.size + 1 ≤ w2.heap.size := by have := hg2.size; omega
    have HQ := Lib.hid (heap_alloc_new w2 (.cells (ge a ⟨A, vc⟩) 25))
    have HEL := Lib.hid (Row.below (hel.base (show w.heap.size + 1 ≤ _ by omega)) (box_below w2 (.cells (ge a ⟨A, vc⟩) 25)))
    have HB2 := Lib.hid (hb2.trans ((box_below w2 (.cells (ge a ⟨A, vc⟩) 25)).mono hb2.size))
    have HT2 := Lib.hid (tape_new2 ht2 (.cells (ge a ⟨A, vc⟩) 25))
    have HME := Lib.hid hme
    have ha1 := hme.ok.n1
    have ha4 := hme.n4
    have ha15 := hme.m15
    clear hel hg2 ht2 hb2 hme HB1 HT1 HBX HTP
    obtain ⟨g0, g1⟩ := geCells HQ.out
    go_wp2_with (with_reducible (show wpList _ _ _ (⟨none, .store 25 (.tmp 4) (.tmp 24), _, _, _, _⟩ :: _) _ _); refine wpList_store_row (o := ⟨none, .store 25 (.tmp 4) (.tmp 24), _, _, _, _⟩) rfl 25 (.tmp 4) (.tmp 24) rfl w2.heap.size (ge a ⟨A, vc⟩) rfl rfl 25 zE (heap_alloc_new _ _) (infoEs _ _) rfl (ge_one _ _) ?_; rw [new_set])
    have lQ : w2.heap.size < (w2.alloc (.cells (ge a ⟨A, vc⟩) 25)).heap.size := row_lt HQ.out
    generalize w2.alloc (.cells (ge a ⟨A, vc⟩) 25) = W1 at *
    generalize w2.heap.size = Q at *
    have HNA := Lib.hid (fun w' (h : TapeOk w' w.heap.size) => next_any w.heap.size a.n w' h (by omega) (by omega))
    refine (HNA.out _ HT2.out).mono ?_
    rintro e wp ⟨zp, zp0, zp1, rfl, hgp, htp⟩
    obtain ⟨p, rfl⟩ : ∃ k : Nat, zp = k := ⟨zp.toNat, by omega⟩
    have HQp := Lib.hid ((hgp.block _ lQ (fun e => by injection e; omega)).trans HQ.out)
    have HEp := Lib.hid (HEL.out.grown hgp (fun g e => by cases e; omega))
    have HBp := Lib.hid (HB2.out.grown hgp HB2.out.size (fun k e => by cases e; exact Nat.le_refl _))
    have HTp := Lib.hid htp
    have lQp : Q < wp.heap.size := row_lt HQp.out
    clear hgp htp g0 g1 HQ HEL HB2 HT2
    obtain ⟨g0, g1⟩ := geCells HQp.out
    go_wp2_with fail
    refine (next_any w.heap.size 32 _ HTp.out (by omega) (by omega)).mono ?_
    rintro e w3 ⟨zt, zt0, zt1, rfl, hg3, ht3⟩
    obtain ⟨t, rfl⟩ : ∃ k : Nat, zt = k := ⟨zt.toNat, by omega⟩
    have HQ3 := Lib.hid ((hg3.block _ lQp (fun e => by injection e; omega)).trans HQp.out)
    have HE3 := Lib.hid (HEp.out.grown hg3 (fun g e => by cases e; omega))
    have HB3 := Lib.hid (HBp.out.grown hg3 HBp.out.size (fun k e => by cases e; exact Nat.le_refl _))
    have hpn : (p : Int) < a.n := by omega
    clear hg3 ht3 g0 g1 HQp HEp HBp HTp
    have HOK1 := Lib.hid HME.out.ok
    obtain ⟨g0, g1⟩ := geCells HQ3.out
    have hbc := box_below w3 (.cells #[.int .i64 a.n, .slice none 0 0] 25)
    have HC4 := Lib.hid (show (w3.alloc (.cells #[.int .i64 a.n, .slice none 0 0] 25)).heap[w3.heap.size]? = some (.cells (ge ⟨a.n, []⟩ ⟨none, 0⟩) 25 (0, 0)) from heap_alloc_new w3 _)
    have lC := row_lt HC4.out
    have lQ3 : Q < w3.heap.size := row_lt HQ3.out
    have z0 := fun o => (World.cell?_alloc_lt w3 o _ lQ3).trans g0
    have z1 := fun o => (World.cell?_alloc_lt w3 o _ lQ3).trans g1
    have HEF := Lib.hid (fun wr (h : Below w3.heap.size w3 wr) => Row.base (B' := 0) (Row.below HE3.out h) (Nat.zero_le _))
    have HQF := Lib.hid (fun wr (h : Below w3.heap.size w3 wr) => (h.block _ lQ3).trans HQ3.out)
    have HBF := Lib.hid (fun wr (h : Below w3.heap.size w3 wr) => HB3.out.trans (h.mono HB3.out.size))
    have HB34 := Lib.hid hbc
    clear hbc
    go_wp2_with fail
    clear z0 z1 g0 g1
    generalize w3.alloc (.cells #[.int .i64 a.n, .slice none 0 0] 25) = W4 at *
    generalize w3.heap.size = C at *
    obtain ⟨j0, hj1, hy0, hy1, hy2⟩ := info_parts zinfoAc
    have HJ := Lib.hid hj1
    have HJ0 := Lib.hid hy0
    have HJ1 := Lib.hid hy1
    have HJ2 := Lib.hid hy2
    clear hj1 hy0 hy1 hy2 HQ3 HE3 HB3
    go_loopw [37] (fun ii wr => ∃ (k : Nat) (L : List Ac), k ≤ a.e.length ∧ ii = .int .i64 (k : Int) ∧ PRel a p t k L ∧ CRel C C a.n L wr ∧ Below C w3 wr ∧ W4.heap.size ≤ wr.heap.size) (fun ii _ => a.e.length - (intOf ii).toNat)
    case atStart => exact ⟨0, [], by omega, rfl, PRel.start HOK1.out p t, ⟨none, 0, HC4.out, own_nil _ _ _ _⟩, HB34.out, Nat.le_refl _⟩
    case round =>
      obtain ⟨k, L, hk, rfl, hpr, ⟨A', c', hc, ho⟩, hbl, hsz⟩ := hrel
      have HPR := Lib.hid hpr
      have HC := Lib.hid hc
      have HO := Lib.hid ho
      have HBL := Lib.hid hbl
      obtain ⟨v0, v1⟩ := geCells hc
      have q1 : wr.frozen? ⟨C, 1, none⟩ = false := frozen_of_row _ _ _ _ _ hc
      have hlk := hpr.len
      clear hc ho hbl HC4 hpr
      by_cases hlt : k < a.e.length
      · obtain ⟨b, off, hA, -, hbk, hac⟩ := (HEF.out _ HBL.out).ac hlt
        have hA : A = some ⟨b, off, none⟩ := hA
        subst hA
        obtain ⟨y0, y1, y2, y3, y4, y5, y6⟩ := hac
        have HKP := Lib.hid (HPR.out.keep HOK1.out hlt)
        have HSK := Lib.hid (HPR.out.skip (k := k))
        have hcw : C < wr.heap.size := row_lt HC.out
        generalize ag a.e k = x at *
        obtain ⟨xt, xk, xp, xr, xu, xc, xf⟩ := x
        simp only at y0 y1 y2 y3 y4 y5 y6
        have hbx := box_below wr (.cells #[.int .i64 xt, .int .i64 xk, .int .i64 xp, .int .i64 xr, .int .i64 xu, .int .i64 xc, .int .i64 xf] 52)
        have HBX := Lib.hid (HBL.out.trans (hbx.mono (Nat.le_of_lt hcw)))
        have XN := Lib.hid (heap_alloc_new wr (.cells #[.int .i64 xt, .int .i64 xk, .int .i64 xp, .int .i64 xr, .int .i64 xu, .int .i64 xc, .int .i64 xf] 52))
        have CX := Lib.hid ((hbx.block _ hcw).trans HC.out)
        have OX := Lib.hid (own_below HO.out hbx)
        obtain ⟨n0, n1, n2, n3, n4, n5, n6⟩ := accCells (x := ⟨xt, xk, xp, xr, xu, xc, xf⟩) XN.out
        simp only at n0 n1 n2 n3 n4 n5 n6
        have j0' : (0 : Int) ≤ (k : Int) := by omega
        have j1' : (k : Int) < (a.e.length : Int) := by omega
        have hzx : W4.heap.size ≤ (wr.alloc (.cells #[.int .i64 xt, .int .i64 xk, .int .i64 xp, .int .i64 xr, .int .i64 xu, .int .i64 xc, .int .i64 xf] 52)).heap.size := by simp; omega
        have HZX := Lib.hid hzx
        clear hbx hzx
        by_cases ht : xp = (p : Int)
        · have d1 : (xp == (p : Int)) = true := by rw [ht]; simp
          have HNW := Lib.hid (fun o => (by have := heap_alloc_new (wr.alloc (.cells #[.int .i64 xt, .int .i64 xk, .int .i64 xp, .int .i64 xr, .int .i64 xu, .int .i64 xc, .int .i64 xf] 52)) o; rwa [show (wr.alloc (.cells #[.int .i64 xt, .int .i64 xk, .int .i64 xp, .int .i64 xr, .int .i64 xu, .int .i64 xc, .int .i64 xf] 52)).heap.size = wr.heap.size + 1 by simp] at this : ((wr.alloc (.cells #[.int .i64 xt, .int .i64 xk, .int .i64 xp, .int .i64 xr, .int .i64 xu, .int .i64 xc, .int .i64 xf] 52)).alloc o).heap[wr.heap.size + 1]? = some o))
          clear ht
          go_wp2_with (at_builtin; refine wpList_append_own _ rfl (.tmp 46) (.tmp 48) 23 rfl C 52 j0 (.agg #[.int .i64 0, .int .i64 0, .int .i64 0, .int .i64 0, .int .i64 0, .int .i64 0, .int .i64 0]) 7 56 Try.underlying23 HJ.out HJ0.out HJ1.out HJ2.out rfl (by decide) _ L.length (av L) rfl (OX.out.alloc _) ⟨wr.heap.size + 1, 0, none⟩ 1 1 [.int .i64 xt, .int .i64 xk, .int .i64 xp, .int .i64 xr, .int .i64 xu, .int .i64 xc, .int .i64 xf] rfl rfl (World.news_of_block (HNW.out _)) (by simp [Value.oneCell']) (by unfold maxLen; omega) (by omega) (by simp; omega) ?_; intro v' w12 hown hgr _; obtain ⟨A2, c2, rfl⟩ := own_form hown; have Q12 := Lib.hid (crel_q CX.out OX.out hgr); have HADD := Lib.hid (crel_add (x := ⟨xt, xk, xp, xr, xu, xc, xf⟩) CX.out OX.out hgr hown); have B12 := Lib.hid ((HBX.out.trans ((box_below _ _).mono (by simp; omega))).grown hgr (by simp; omega) (fun g e => (OX.out.lt g e).1)); have Z12 := Lib.hid (Nat.le_trans HZX.out (Nat.le_trans (by simp) hgr.size)); clear hown hgr; obtain ⟨r0, r1⟩ := geCells Q12.out; have r2 : w12.frozen? ⟨C, 1, none⟩ = false := frozen_of_row _ _ _ _ _ Q12.out)
          rw [setCell_eq_setRow w12 C 1 _ _ _ _ Q12.out]
          exact ⟨⟨k + 1, L ++ [⟨xt, xk, xp, xr, xu, xc, xf⟩], by omega, by go_num, HKP.out, HADD.out, below_setRow B12.out (Nat.le_refl _) _, by rw [setRow_size]; exact Z12.out⟩, by simp [intOf]; omega⟩
        · have d1 : (xp == (p : Int)) = false := beq_eq_false_iff_ne.2 ht
          have HS := Lib.hid (HSK.out ht)
          clear ht
          go_wp2_with fail
          exact ⟨⟨k + 1, L, by omega, by go_num, HS.out, ⟨A', c', CX.out, OX.out⟩, HBX.out, HZX.out⟩, by simp [intOf]; omega⟩
      · obtain rfl : k = a.e.length := by omega
        have HEA := Lib.hid (HEF.out _ HBL.out)
        have HEC := Lib.hid (show EL wr 0 ⟨a.n, L⟩ ⟨A', c'⟩ from Row.base (B' := 0) (row_of_own HO.out) (Nat.zero_le _))
        have HQA := Lib.hid (HQF.out _ HBL.out)
        have HQC := Lib.hid HC.out
        have HBW := Lib.hid (HBF.out _ HBL.out)
        have he1 : exP a p := ⟨HOK1.out, by omega, hpn⟩
        have he2 : exP ⟨a.n, L⟩ p := ⟨HPR.out.ok, by omega, hpn⟩
        have hla := fun w' (hw : Below wr.heap.size wr w') => linked_yes a ⟨A, vc⟩ p t w' (Row.below HEA.out hw) he1
        have hlc := fun w' (hw : Below wr.heap.size wr w') => linked_yes ⟨a.n, L⟩ ⟨A', c'⟩ p t w' (Row.below HEC.out hw) he2
        have hga := fun w' (hw : Below wr.heap.size wr w') => granted_any a ⟨A, vc⟩ p t w' (Row.below HEA.out hw)
        have hgc := fun w' (hw : Below wr.heap.size wr w') => granted_any ⟨a.n, L⟩ ⟨A', c'⟩ p t w' (Row.below HEC.out hw)
        have hsame : gdB ⟨a.n, L⟩ p t = gdB a p t := funext fun r => by rw [gdB_yes he2, gdB_yes he1]; exact HPR.out.gr r
        have hls : (lkA L p t).isSome = (lkA a.e p t).isSome := HPR.out.lk
        rw [hsame] at hgc
        simp only [hls] at hlc
        simp only [ge] at hla hlc hga hgc
        have hgq : ∀ w', Below wr.heap.size wr w' → (w'.cell? ⟨Q, 0, none⟩ = some (.int .i64 a.n) ∧ w'.cell? ⟨Q, 1, none⟩ = some (.slice A a.e.length vc) ∧ w'.cell? ⟨C, 0, none⟩ = some (.int .i64 a.n) ∧ w'.cell? ⟨C, 1, none⟩ = some (.slice A' L.length c') ∧ Below wr.heap.size wr w') := fun w' hw =>
          ⟨(geCells ((hw.block _ (row_lt HQA.out)).trans HQA.out)).1, (geCells ((hw.block _ (row_lt HQA.out)).trans HQA.out)).2, (geCells ((hw.block _ (row_lt HQC.out)).trans HQC.out)).1, (geCells ((hw.block _ (row_lt HQC.out)).trans HQC.out)).2, hw⟩
        have HKP := Lib.hid hgq
        clear v0 v1 q1 HC HO hsame hls he1 he2
        obtain ⟨q0, q1, q2, q3, -⟩ := hgq wr (Below.refl _ _)
        generalize gdB a p t = q at *
        have hnm := cnt_le q 24
        unfold SmPost at hga hgc
        generalize cnt q 24 = nm at *
        generalize idx q 24 = LM at *
        generalize on (lkA a.e p t) = I1 at *
        generalize on (lkA L p t) = I2 at *
        have b2 : ((lkA a.e p t).isSome == (lkA a.e p t).isSome) = true := by simp
        generalize (lkA a.e p t).isSome = Bo at *
        have HLA := Lib.hid hla
        have HLC := Lib.hid hlc
        have HGA := Lib.hid hga
        have HGC := Lib.hid hgc
        have HM14 := Lib.hid True.intro
        clear hla hlc hga hgc hgq
        go_wp2_with (first
          | (go_at_call 27; (with_reducible refine (HLA.out _ (Below.refl _ _)).mono ?_); rintro e w8 ⟨rfl, hb8⟩; have B8 := Lib.hid hb8; clear q0 q1 q2 q3; obtain ⟨q0, q1, q2, q3, -⟩ := HKP.out w8 hb8; clear hb8)
          | (go_at_call 27; (with_reducible refine (HLC.out _ B8.out).mono ?_); rintro e w9 ⟨rfl, hb9⟩; have B9 := Lib.hid (B8.out.trans (hb9.mono B8.out.size)); clear q0 q1 q2 q3; obtain ⟨q0, q1, q2, q3, -⟩ := HKP.out w9 B9.out; clear hb9))
        have bd9 : Below wr.heap.size wr w9 := B9.out
        have bd0 : Below wr.heap.size wr w9.drew := B9.out.drew
        go_region_held3 (fun w' => w'.cell? ⟨Q, 0, none⟩ = some (.int .i64 a.n) ∧ w'.cell? ⟨Q, 1, none⟩ = some (.slice A a.e.length vc) ∧ w'.cell? ⟨C, 0, none⟩ = some (.int .i64 a.n) ∧ w'.cell? ⟨C, 1, none⟩ = some (.slice A' L.length c') ∧ Below wr.heap.size wr w')
          (first | (with_reducible assumption) | (with_reducible exact HKP.out _ bd9) | (with_reducible exact HKP.out _ bd0) | (with_reducible exact HKP.out _ ba) | (with_reducible exact HKP.out _ bb) | (with_reducible exact HKP.out _ bi) | (with_reducible exact HKP.out _ bj))
          (first
            | (go_at_call 29; (with_reducible refine (HGA.out _ ?_).mono ?_); (go_split_ands; with_reducible assumption); rintro e wa ⟨X1, x1, rfl, hown1, hba⟩; go_split_ands; have ba : Below wr.heap.size wr wa := Below.trans (by with_reducible assumption) (hba.mono (Below.size (by with_reducible assumption))); have R1 := Lib.hid ((row_of_own hown1).base (Nat.zero_le _)); clear hba hown1)
            | (go_at_call 29; (with_reducible refine (HGC.out _ ?_).mono ?_); (go_split_ands; with_reducible assumption); rintro e wb ⟨X2, x2, rfl, hown2, hbb⟩; go_split_ands; have bb : Below wr.heap.size wr wb := Below.trans (by with_reducible assumption) (hbb.mono (Below.size (by with_reducible assumption))); have R2 := Lib.hid ((row_of_own hown2).base (Nat.zero_le _)); have R1b := Lib.hid (R1.out.below hbb); clear hbb hown2)
            | (go_at_call 20; (refine (ints_same X1 X2 nm x1 x2 LM _ R1b.out R2.out (by omega)).mono ?_); rintro e wi ⟨rfl, hbi⟩; go_split_ands; have bi : Below wr.heap.size wr wi := Below.trans (by with_reducible assumption) (hbi.mono (Below.size (by with_reducible assumption))); clear hbi)
            | (go_at_call 14; (refine (awake_any _).mono ?_); rintro e wj ⟨rfl, hbj⟩; go_split_ands; have bj : Below wr.heap.size wr wj := Below.trans (by with_reducible assumption) (hbj.mono (Below.size (by with_reducible assumption))); clear hbj))
        go_split_ands
        have BJ := Lib.hid (HBW.out.trans (bj.mono HBW.out.size))
        clear bi bb ba bj bd9 bd0
        go_wp2_with fail
        go_ret
        exact ⟨by first | rfl | simp, BJ.out⟩

/-! ### THE ROW's STEP: WRITTEN OUT: LEAVE IT -/
set_option maxRecDepth 100000 in
theorem lifted (os : Os) (started : os.Started) (H : Type) (enc : TypeId × Value → H) :
    ReturnsInHanded {} Try.checked os 8 .any (Rows.accessPlacesSpec.pre6 enc Try.prog Try.f8 Rows.accessPlacesRow.domain false) (Rows.accessPlacesSpec.post enc Try.prog Try.f8 false true false false) := by
  refine returnsInHanded_of_change (C := Try.checked) own started (by kernel_rfl) Try.func8
    (ChangeSpec.witness6 (enc := enc) (C := Try.checked) false ⟨#[], #[.slice none 0 0], []⟩ 8 (by kernel_rfl) (by kernel_rfl) (by kernel_rfl) (by kernel_rfl)) ?_
  intro W base args ds gs before hval0 hW hcnd _
  have hval : ∀ (j : Nat) t v, Try.f8.params[j]? = some t → args[j]? = some v → Value.okWide Try.prog W .any base t v := hval0
  have hW' := hW
  obtain ⟨p, q, hA0, hV, rfl, hfz, hnd⟩ := hW
  have hA : DataW.TrodAll enc Try.prog W 0 (fun _ => true) true Try.f8.params.toList args.toList ds p := hA0
  rw [Try.params8] at hA hval
  obtain ⟨v0, vs0, d0, ds0, p0, q0, hargs, rfl, rfl, h0, r0⟩ := trodAll_cons hA
  obtain ⟨rfl, rfl, rfl⟩ := trodAll_nil r0
  obtain rfl : args = #[v0] := by cases args; simp_all
  obtain ⟨rfl, rfl⟩ := trodVars_none hV
  obtain ⟨a0, len0, cap0, rfl⟩ := okWide_slice Try.underlying22 (hval 0 22 v0 rfl rfl)
  have k0 := h0
  have lt0 : ∀ x ∈ p0, x.block < W.heap.size := by obtain ⟨m, hm⟩ := k0; exact DataW.trod_lt m _ _ _ hm
  obtain ⟨z0, w0⟩ : ∃ zs, IsRow .i64 W a0 len0 cap0 zs := by
    obtain ⟨fuel, hf⟩ := h0
    rcases open_ints Try.underlying22 Try.underlying3 (by kernel_rfl) hf with ⟨hcs, _⟩ | ⟨x, l, c, zs, hcs, _, hl, hm, hz, _, hcell, hwz⟩
    · simp [Value.cells] at hcs
      obtain ⟨rfl, rfl, rfl⟩ := hcs
      exact ⟨[], .inl ⟨rfl, rfl, rfl, rfl⟩⟩
    · simp [Value.cells] at hcs
      obtain ⟨rfl, rfl, rfl⟩ := hcs
      exact ⟨zs, .inr ⟨_, rfl, hl, hm, by simpa using hz, hcell, hwz⟩⟩
  clear hA0 hval0
  refine (walk a0 len0 cap0 z0 W w0).mono fun e W' ⟨he, bel⟩ => ?_
  subst he
  exact ⟨_, rfl, _, _, _, [], _, [], hW', trodAll_mk1 (shut_bool Try.underlying4 _), (trodAll_cons_mk (Below.trod laidOut (by kernel_rfl) (of_decide_eq_true (by kernel_rfl)) k0 bel lt0) trodAll_mk0), rfl, bel.frame _, fun h => by cases h⟩

theorem over : Rows.accessPlacesRow.holds Try.pinned (OpenSpec.ofChange Rows.accessPlacesSpec) :=
  OpenClaim.holds_of_wide 8 Try.f8 rfl rfl rfl rfl rfl rfl rfl ⟨rfl, rfl, rfl, rfl, rfl⟩ rfl rfl rfl rfl rfl (by kernel_rfl) Try.func8 (by kernel_rfl)
    (of_decide_eq_true (by kernel_rfl)) (by unfold Func.isWrapper; first | (rw [if_pos (by decide +kernel)]; kernel_rfl) | (rw [if_neg (by decide +kernel)]; exact ⟨rfl, rfl⟩))
    (fun os started H enc _ => lifted os started H enc)

/-- ████ THE STATEMENT ████ -/
theorem proved : Rows.AccessPlacesSaid := over
#print axioms proved
end Go.Proofs.Ytfdmneceecaocaa.accessPlaces
