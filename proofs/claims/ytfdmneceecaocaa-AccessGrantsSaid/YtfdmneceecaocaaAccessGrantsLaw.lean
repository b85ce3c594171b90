/-
  The Go function leakresponse/leakresponselaw27.AccessGrants returns true for every list of numbers, and leaves what was there as it was; no conditions. What Granted names Grant finds, at an event that grants it and that no later one takes back.
-/
import Derived.Test.YtfdmneceecaocaaAcM
import Derived.Test.YtfdmneceecaocaaAcJ
import Derived.Test.YtfdmneceecaocaaDjF
import Derived.Test.YtfdmneceecaocaaRows
import Derived.WalkKit
import Derived.ProofKit
import Derived.OpenShut
import Derived.ShutString
import Derived.ChangeOld
import Derived.Below
import Derived.StillTailTactics
import Derived.Deep.CutBlock
namespace Go.Proofs.Ytfdmneceecaocaa.accessGrants
open Go.ChangeShapes Go.WideShapes Go.ChangeAt Go.RowKit
open Go.ChangeMaps (open_string shut_string)
open Go.Proofs.Ytfdmneceecaocaa.Tp
open Go.Proofs.Ytfdmneceecaocaa.Di
set_option linter.unusedVariables false

theorem Row.acTail {w : World} {B n : Nat} {A : Option Addr} {l : List Ac} (h : Row w B 7 A n (av l)) {i cap j : Nat} (hc : n ≤ cap) (hj : j < n - (i + 1)) : ∃ b off, (if cap = i + 1 then A else A.map (fun d => d.add ((i + 1) * 7))) = some ⟨b, off, none⟩ ∧ b < w.heap.size ∧ AcAt w b (off + j * 7) (ag l (i + 1 + j)) := by
  obtain ⟨b, off, e, -, hlt, hac⟩ := Row.ac h (i := i + 1 + j) (by omega)
  subst e
  refine ⟨b, off + (i + 1) * 7, ?_, hlt, ?_⟩
  · rw [if_neg (by omega)]
    simp [Addr.add]
  · rw [show off + (i + 1) * 7 + j * 7 = off + (i + 1 + j) * 7 by omega]
    exact hac

set_option maxRecDepth 100000 in
set_option maxHeartbeats 8000000 in
theorem walk (a0 : Option Addr) (len0 cap0 : Nat) (z0 : List Int) (w : World) (w0 : IsRow .i64 w a0 len0 cap0 z0) :
    Calls Try.prog 4 #[.slice a0 len0 cap0] w fun e w' => e = .returned (.bool true) ∧ Below w.heap.size w w' := by
  have hm := w0.at_.1
  unfold maxLen at hm
  have HTP := Lib.hid (tape_new w0)
  have HBX := Lib.hid (box_below w (.cells #[.slice a0 len0 cap0, .int .i64 0] 29))
  clear w0
  by_cases hlen : 300 < len0
  · have hl0 : (300 : Int) < (len0 : Int) := by omega
    go_enter Try.func4, Try.ntmps4
    go_wp2_with (go_at_call 14; refine (awake_any _).mono ?_; rintro e w1 ⟨rfl, hb1⟩; have HB1 := Lib.hid hb1; clear hb1)
    go_ret
    exact ⟨rfl, HB1.out⟩
  · have hl0 : (len0 : Int) ≤ (300 : Int) := by omega
    go_enter Try.func4, Try.ntmps4
    go_wp2_with fail
    refine (directory_any w.heap.size _ HTP.out (by simp)).mono ?_
    rintro e w1 ⟨d, v, rfl, hmk, hrl, hg1, ht1⟩
    have hb1 : Below w.heap.size w w1 := HBX.out.grown hg1 HBX.out.size (fun k e => by cases e; exact Nat.le_refl _)
    have hs1 := hg1.size
    simp at hs1
    have HB1 := Lib.hid hb1
    have HT1 := Lib.hid ht1
    have hn1 := hmk.n1
    have hn7 := hmk.n7
    clear hrl hg1 ht1 hb1 hmk
    go_wp2_with fail
    refine (estate_any w.heap.size d v w1 HT1.out (by omega) hn1 hn7).mono ?_
    rintro e w2 ⟨a, ⟨A, vc⟩, rfl, hme, hel, hg2, ht2, hvc⟩
    have hb2 : Below w.heap.size w w2 := HB1.out.grown hg2 HB1.out.size (fun k e => by cases e; exact Nat.le_refl _)
    have hs2 : w.heap.size + 1 ≤ w2.heap.size := by have := hg2.size; omega
    have HQ := Lib.hid (heap_alloc_new w2 (.cells (ge a ⟨A, vc⟩) 25))
    have HEL := Lib.hid (Row.below (hel.base (show w.heap.size + 1 ≤ _ by omega)) (box_below w2 (.cells (ge a ⟨A, vc⟩) 25)))
    have HB2 := Lib.hid (hb2.trans ((box_below w2 (.cells (ge a ⟨A, vc⟩) 25)).mono hb2.size))
    have HT2 := Lib.hid (tape_new2 ht2 (.cells (ge a ⟨A, vc⟩) 25))
    have HME := Lib.hid hme
    have ha1 := hme.ok.n1
    have ha4 := hme.n4
    have ha15 := hme.m15
    clear hel hg2 ht2 hb2 hme HB1 HT1 HBX HTP
    obtain ⟨g0, g1⟩ := geCells HQ.out
    go_wp2_with (with_reducible (show wpList _ _ _ (⟨none, .store 25 (.tmp 4) (.tmp 24), _, _, _, _⟩ :: _) _ _); refine wpList_store_row (o := ⟨none, .store 25 (.tmp 4) (.tmp 24), _, _, _, _⟩) rfl 25 (.tmp 4) (.tmp 24) rfl w2.heap.size (ge a ⟨A, vc⟩) rfl rfl 25 zE (heap_alloc_new _ _) (infoEs _ _) rfl (ge_one _ _) ?_; rw [new_set])
    have lQ : w2.heap.size < (w2.alloc (.cells (ge a ⟨A, vc⟩) 25)).heap.size := row_lt HQ.out
    generalize w2.alloc (.cells (ge a ⟨A, vc⟩) 25) = W1 at *
    generalize w2.heap.size = Q at *
    refine (next_any w.heap.size 32 _ HT2.out (by omega) (by omega)).mono ?_
    rintro e w3 ⟨zt, zt0, zt1, rfl, hg3, ht3⟩
    obtain ⟨t, rfl⟩ : ∃ k : Nat, zt = k := ⟨zt.toNat, by omega⟩
    have HQ3 := Lib.hid ((hg3.block _ lQ (fun e => by injection e; omega)).trans HQ.out)
    have HE3 := Lib.hid (Row.base (B' := 0) (HEL.out.grown hg3 (fun g e => by cases e; omega)) (Nat.zero_le _))
    have HB3 := Lib.hid (HB2.out.grown hg3 HB2.out.size (fun k e => by cases e; exact Nat.le_refl _))
    clear hg3 ht3 g0 g1 HQ HEL HB2 HT2
    have HOK1 := Lib.hid HME.out.ok
    have HF := Lib.hid (show (#[.int .i64 a.n, .slice A a.e.length vc] : Array Value) = ge a ⟨A, vc⟩ from rfl)
    have hvc : a.e.length ≤ vc := hvc
    have hw3 : Q < w3.heap.size := row_lt HQ3.out
    go_wp2_with fail
    go_loopw [6] (fun pp wr => ∃ p : Nat, (p : Int) ≤ a.n ∧ pp = .int .i64 (p : Int) ∧ Below w3.heap.size w3 wr) (fun pp _ => (a.n - intOf pp).toNat)
    case atStart => exact ⟨0, by omega, rfl, Below.refl _ _⟩
    case round =>
      obtain ⟨p, hp, rfl, hbl⟩ := hrel
      rename World => wv
      have HBV := Lib.hid hbl
      have HQV := Lib.hid ((hbl.block _ hw3).trans HQ3.out)
      obtain ⟨g0, g1⟩ := geCells HQV.out
      by_cases hlp : (p : Int) < a.n
      · have d9 : decide ((p : Int) < a.n) = true := decide_eq_true hlp
        have he1 : exP a p := ⟨HOK1.out, by omega, hlp⟩
        have hga := granted_any a ⟨A, vc⟩ p t wv (Row.below HE3.out hbl)
        unfold SmPost at hga
        have HHI := Lib.hid (fun r : Nat => fun hr : r < 24 => has_idx (gdB a p t) 24 r hr)
        have HGY := Lib.hid (fun r : Nat => gdB_yes he1 (t : Int) r)
        have hnm := cnt_le (gdB a p t) 24
        have HGR := Lib.hid (fun (r : Nat) w' (hw : Below w3.heap.size w3 w') (hr : r < 9) => grant_yes a ⟨A, vc⟩ p r t w' (Row.below HE3.out hw) he1 (WalkArith.wf_i64 (by omega)))
        have HGA := Lib.hid hga
        have hpn : (p : Int) < a.n := hlp
        clear hga hlp he1 hbl
        generalize gdB a p t = q at *
        generalize cnt q 24 = nm at *
        generalize idx q 24 = LM at *
        go_wp2_with (go_at_call 29; rw [HF.out]; (with_reducible refine HGA.out.mono ?_); rintro e w9 ⟨X9, x9, rfl, hown9, hb9⟩; have B9 := Lib.hid (HBV.out.trans (hb9.mono HBV.out.size)); have R9 := Lib.hid ((row_of_own hown9).base (Nat.zero_le _)); clear hown9 hb9 g0 g1)
        go_loopw [8] (fun rr wr => ∃ r : Nat, r ≤ 9 ∧ rr = .int .i64 (r : Int) ∧ Below w9.heap.size w9 wr) (fun rr _ => (9 - intOf rr).toNat)
        case atStart => exact ⟨0, by omega, rfl, Below.refl _ _⟩
        case round =>
          obtain ⟨r, hr, rfl, hbl⟩ := hrel
          rename World => wz
          have HBZ := Lib.hid (B9.out.trans (hbl.mono B9.out.size))
          have HBO := Lib.hid hbl
          have HQZ := Lib.hid ((HBZ.out.block _ hw3).trans HQ3.out)
          obtain ⟨g0, g1⟩ := geCells HQZ.out
          by_cases hlr : r < 9
          · have d9 : decide ((r : Int) < 9) = true := decide_eq_true (by omega)
            have hgr := HGR.out r wz HBZ.out hlr
            have hhi := HHI.out r (by omega)
            have hgy := HGY.out r
            have hha := fun w' (hw : Below wz.heap.size wz w') => has_any LM r X9 nm x9 w' (R9.out.below (hbl.trans (hw.mono hbl.size))) (by omega)
            rw [hhi, hgy] at hha
            cases hg : grA a.e p t r with
            | none =>
              rw [hg] at hgr hha
              have HGR1 := Lib.hid hgr
              have HHA := Lib.hid hha
              clear hgr hha hhi hgy hg
              go_wp2_with (first
                | (go_at_call 25; rw [HF.out]; (with_reducible refine HGR1.out.mono ?_); rintro e w5 ⟨rfl, hb5⟩; have B5 := Lib.hid hb5; clear hb5; simp only [on, Option.isSome])
                | (go_at_call 31; (with_reducible refine (HHA.out _ B5.out).mono ?_); rintro e w6 ⟨rfl, rfl⟩; simp only [Option.isSome]))
              exact ⟨⟨r + 1, by omega, by go_num, (by assumption : Below w9.heap.size w9 wz).trans (B5.out.mono (Below.size (by assumption))) ⟩, by simp [intOf]; omega⟩
            | some i =>
              rw [hg] at hgr hha
              have HGR1 := Lib.hid hgr
              have HHA := Lib.hid hha
              have HGI := Lib.hid (gr_is a.e p t r a.e.length i hg)
              have hil : i < a.e.length := gr_lt a.e p t r a.e.length i hg
              clear hgr hha hhi hgy hg
              obtain ⟨i1, i2, i3, i4, i5⟩ := HGI.out
              have HI5 := Lib.hid i5
              have i0' : (0 : Int) ≤ (i : Int) := by omega
              have i1' : (i : Int) < (a.e.length : Int) := by omega
              obtain ⟨b, off, hA, -, hbk, y⟩ := (Row.below HE3.out HBZ.out).ac hil
              have hA : A = some ⟨b, off, none⟩ := hA
              subst hA
              have HY := Lib.hid (fun w' (hw : Below wz.heap.size wz w') => y.below hw hbk)
              generalize hx : ag a.e i = x at *
              obtain ⟨xt, xk, xp, xr, xu, xc, xf⟩ := x
              simp only at i1 i2 i3 i4
              clear y
              subst i1 i2 i3
              have dx : decide ((t : Int) < xt) = false := decide_eq_false (by omega)
              have hw1 : IntKind.i64.wrap ((i : Int) + 1) = (i : Int) + 1 := IntWalk.i64_in _ (by omega)
              have dn : decide ((i : Int) < 0) = false := decide_eq_false (by omega)
              have dg : decide ((a.e.length : Int) ≤ (i : Int)) = false := decide_eq_false (by omega)
              have hlen0 : (a.e.length - (i + 1) : Nat) + (i + 1) = a.e.length := by omega
              by_cases hv : vc = i + 1
              · subst hv
                go_wp2_with (first
                  | (go_at_call 25; rw [HF.out]; (with_reducible refine HGR1.out.mono ?_); rintro e w5 ⟨rfl, hb5⟩; have B5 := Lib.hid hb5; have B5z := Lib.hid (HBZ.out.trans (hb5.mono HBZ.out.size)); have Q5 := Lib.hid ((B5z.out.block _ hw3).trans HQ3.out); obtain ⟨k0, k1, k2, k3, k4, k5, k6⟩ := HY.out w5 hb5; simp only at k0 k1 k2 k3 k4 k5 k6; clear hb5 g0 g1; obtain ⟨g0, g1⟩ := geCells Q5.out; simp only [on, Option.isSome])
                  | (go_at_call 31; (with_reducible refine (HHA.out _ B5.out).mono ?_); rintro e w6 ⟨rfl, rfl⟩; obtain ⟨n0, n1, n2, n3, n4, n5, n6⟩ := accCells (x := ⟨xt, 1, p, r, xu, xc, xf⟩) (heap_alloc_new w6 (.cells #[.int .i64 xt, .int .i64 1, .int .i64 p, .int .i64 r, .int .i64 xu, .int .i64 xc, .int .i64 xf] 52)); simp only at n0 n1 n2 n3 n4 n5 n6; have lq6 := row_lt Q5.out; have z0 := fun o => (World.cell?_alloc_lt w6 o _ lq6).trans g0; have z1 := fun o => (World.cell?_alloc_lt w6 o _ lq6).trans g1; simp only [Option.isSome]))
                all_goals
                  have B6 := Lib.hid ((HBO.out.trans (B5.out.mono HBO.out.size)).trans ((box_below w6 (.cells #[.int .i64 xt, .int .i64 1, .int .i64 p, .int .i64 r, .int .i64 xu, .int .i64 xc, .int .i64 xf] 52)).mono (HBO.out.trans (B5.out.mono HBO.out.size)).size))
                  clear z0 z1 n0 n1 n2 n3 n4 n5 n6 k0 k1 k2 k3 k4 k5 k6 g0 g1
                  generalize hLN : a.e.length - (i + 1) = LN at *
                  go_loopw [97] (fun jj wr => ∃ j : Nat, j ≤ LN ∧ jj = .int .i64 (j : Int) ∧ Below w9.heap.size w9 wr) (fun jj _ => (LN - (intOf jj).toNat))
                  case atStart => exact ⟨0, by omega, rfl, B6.out⟩
                  case round =>
                    obtain ⟨j, hj, rfl, hbl⟩ := hrel
                    rename World => wy
                    by_cases hlj : j < LN
                    · exfalso; omega
                    · have d8 : decide ((j : Int) < (LN : Int)) = false := decide_eq_false (by omega)
                      have BY := Lib.hid hbl
                      clear hbl
                      go_wp2_with fail
                      exact ⟨⟨r + 1, by omega, by go_num, BY.out⟩, by simp [intOf]; omega⟩
              · have hv2 := hv
                go_wp2_with (first
                  | (go_at_call 25; rw [HF.out]; (with_reducible refine HGR1.out.mono ?_); rintro e w5 ⟨rfl, hb5⟩; have B5 := Lib.hid hb5; have B5z := Lib.hid (HBZ.out.trans (hb5.mono HBZ.out.size)); have Q5 := Lib.hid ((B5z.out.block _ hw3).trans HQ3.out); obtain ⟨k0, k1, k2, k3, k4, k5, k6⟩ := HY.out w5 hb5; simp only at k0 k1 k2 k3 k4 k5 k6; clear hb5 g0 g1; obtain ⟨g0, g1⟩ := geCells Q5.out; simp only [on, Option.isSome])
                  | (go_at_call 31; (with_reducible refine (HHA.out _ B5.out).mono ?_); rintro e w6 ⟨rfl, rfl⟩; obtain ⟨n0, n1, n2, n3, n4, n5, n6⟩ := accCells (x := ⟨xt, 1, p, r, xu, xc, xf⟩) (heap_alloc_new w6 (.cells #[.int .i64 xt, .int .i64 1, .int .i64 p, .int .i64 r, .int .i64 xu, .int .i64 xc, .int .i64 xf] 52)); simp only at n0 n1 n2 n3 n4 n5 n6; have lq6 := row_lt Q5.out; have z0 := fun o => (World.cell?_alloc_lt w6 o _ lq6).trans g0; have z1 := fun o => (World.cell?_alloc_lt w6 o _ lq6).trans g1; simp only [Option.isSome]))
                all_goals
                  have B6 := Lib.hid ((HBO.out.trans (B5.out.mono HBO.out.size)).trans ((box_below w6 (.cells #[.int .i64 xt, .int .i64 1, .int .i64 p, .int .i64 r, .int .i64 xu, .int .i64 xc, .int .i64 xf] 52)).mono (HBO.out.trans (B5.out.mono HBO.out.size)).size))
                  clear z0 z1 n0 n1 n2 n3 n4 n5 n6 k0 k1 k2 k3 k4 k5 k6 g0 g1
                  generalize hLN : a.e.length - (i + 1) = LN at *
                  go_loopw [97] (fun jj wr => ∃ j : Nat, j ≤ LN ∧ jj = .int .i64 (j : Int) ∧ Below w9.heap.size w9 wr) (fun jj _ => (LN - (intOf jj).toNat))
                  case atStart => exact ⟨0, by omega, rfl, B6.out⟩
                  case round =>
                    obtain ⟨j, hj, rfl, hbl⟩ := hrel
                    rename World => wy
                    by_cases hlj : j < LN
                    · have hbw : Below w3.heap.size w3 wy := B9.out.trans (hbl.mono B9.out.size)
                      obtain ⟨b', off', hA', -, hbk', hac⟩ := (Row.below HE3.out hbw).ac (i := i + 1 + j) (by omega)
                      cases hA'
                      rw [show off + (i + 1 + j) * 7 = off + (i + 1) * 7 + j * 7 by omega] at hac
                      obtain ⟨y0, y1, y2, y3, y4, y5, y6⟩ := hac
                      have hni := HI5.out (i + 1 + j) (by omega) (by omega)
                      generalize ag a.e (i + 1 + j) = y at *
                      obtain ⟨yt, yk, yp, yr, yu, yc, yf⟩ := y
                      simp only at y0 y1 y2 y3 y4 y5 y6 hni
                      have j0' : (0 : Int) ≤ (j : Int) := by omega
                      have j1' : (j : Int) < (LN : Int) := by omega
                      obtain ⟨n0, n1, n2, n3, n4, n5, n6⟩ := accCells (x := ⟨yt, yk, yp, yr, yu, yc, yf⟩) (heap_alloc_new wy (.cells #[.int .i64 yt, .int .i64 yk, .int .i64 yp, .int .i64 yr, .int .i64 yu, .int .i64 yc, .int .i64 yf] 52))
                      simp only at n0 n1 n2 n3 n4 n5 n6
                      have BY := Lib.hid (hbl.trans ((box_below wy (.cells #[.int .i64 yt, .int .i64 yk, .int .i64 yp, .int .i64 yr, .int .i64 yu, .int .i64 yc, .int .i64 yf] 52)).mono hbl.size))
                      clear hbl hbw
                      by_cases t1 : yk = 2
                      · have e1 : (yk == 2) = true := by rw [t1]; rfl
                        by_cases t2 : yp = (p : Int)
                        · have e2 : (yp == (p : Int)) = true := by rw [t2]; simp
                          by_cases t3 : yr = (r : Int)
                          · have e3 : (yr == (r : Int)) = true := by rw [t3]; simp
                            have e4 : decide (yt ≤ (t : Int)) = false := decide_eq_false (fun h => hni ⟨t1, t2, t3, h⟩)
                            clear t1 t2 t3 hni
                            go_wp2_with fail
                            all_goals exact ⟨⟨j + 1, by omega, by go_num, BY.out⟩, by simp [intOf]; omega⟩
                          · have e3 : (yr == (r : Int)) = false := beq_eq_false_iff_ne.2 t3
                            clear t1 t2 t3 hni
                            go_wp2_with fail
                            all_goals exact ⟨⟨j + 1, by omega, by go_num, BY.out⟩, by simp [intOf]; omega⟩
                        · have e2 : (yp == (p : Int)) = false := beq_eq_false_iff_ne.2 t2
                          clear t1 t2 hni
                          go_wp2_with fail
                          exact ⟨⟨j + 1, by omega, by go_num, BY.out⟩, by simp [intOf]; omega⟩
                      · have e1 : (yk == 2) = false := beq_eq_false_iff_ne.2 t1
                        clear t1 hni
                        go_wp2_with fail
                        exact ⟨⟨j + 1, by omega, by go_num, BY.out⟩, by simp [intOf]; omega⟩
                    · have d8 : decide ((j : Int) < (LN : Int)) = false := decide_eq_false (by omega)
                      have BY := Lib.hid hbl
                      clear hbl
                      go_wp2_with fail
                      exact ⟨⟨r + 1, by omega, by go_num, BY.out⟩, by simp [intOf]; omega⟩
          · have d9 : decide ((r : Int) < 9) = false := decide_eq_false (by omega)
            clear hbl
            go_wp2_with fail
            exact ⟨⟨p + 1, by omega, by go_num, HBZ.out⟩, by simp [intOf]; omega⟩
      · have d9 : decide ((p : Int) < a.n) = false := decide_eq_false hlp
        clear hbl
        go_wp2_with (go_at_call 14; refine (awake_any _).mono ?_; rintro e w9 ⟨rfl, hb9⟩; have HB9 := Lib.hid (HB3.out.trans ((HBV.out.trans (hb9.mono HBV.out.size)).mono HB3.out.size)); clear hb9)
        go_ret
        exact ⟨by first | rfl | simp, HB9.out⟩

/-! ### THE ROW's STEP: WRITTEN OUT: LEAVE IT -/
set_option maxRecDepth 100000 in
theorem lifted (os : Os) (started : os.Started) (H : Type) (enc : TypeId × Value → H) :
    ReturnsInHanded {} Try.checked os 4 .any (Rows.accessGrantsSpec.pre6 enc Try.prog Try.f4 Rows.accessGrantsRow.domain false) (Rows.accessGrantsSpec.post enc Try.prog Try.f4 false true false false) := by
  refine returnsInHanded_of_change (C := Try.checked) own started (by kernel_rfl) Try.func4
    (ChangeSpec.witness6 (enc := enc) (C := Try.checked) false ⟨#[], #[.slice none 0 0], []⟩ 8 (by kernel_rfl) (by kernel_rfl) (by kernel_rfl) (by kernel_rfl)) ?_
  intro W base args ds gs before hval0 hW hcnd _
  have hval : ∀ (j : Nat) t v, Try.f4.params[j]? = some t → args[j]? = some v → Value.okWide Try.prog W .any base t v := hval0
  have hW' := hW
  obtain ⟨p, q, hA0, hV, rfl, hfz, hnd⟩ := hW
  have hA : DataW.TrodAll enc Try.prog W 0 (fun _ => true) true Try.f4.params.toList args.toList ds p := hA0
  rw [Try.params4] at hA hval
  obtain ⟨v0, vs0, d0, ds0, p0, q0, hargs, rfl, rfl, h0, r0⟩ := trodAll_cons hA
  obtain ⟨rfl, rfl, rfl⟩ := trodAll_nil r0
  obtain rfl : args = #[v0] := by cases args; simp_all
  obtain ⟨rfl, rfl⟩ := trodVars_none hV
  obtain ⟨a0, len0, cap0, rfl⟩ := okWide_slice Try.underlying22 (hval 0 22 v0 rfl rfl)
  have k0 := h0
  have lt0 : ∀ x ∈ p0, x.block < W.heap.size := by obtain ⟨m, hm⟩ := k0; exact DataW.trod_lt m _ _ _ hm
  obtain ⟨z0, w0⟩ : ∃ zs, IsRow .i64 W a0 len0 cap0 zs := by
    obtain ⟨fuel, hf⟩ := h0
    rcases open_ints Try.underlying22 Try.underlying3 (by kernel_rfl) hf with ⟨hcs, _⟩ | ⟨x, l, c, zs, hcs, _, hl, hm, hz, _, hcell, hwz⟩
    · simp [Value.cells] at hcs
      obtain ⟨rfl, rfl, rfl⟩ := hcs
      exact ⟨[], .inl ⟨rfl, rfl, rfl, rfl⟩⟩
    · simp [Value.cells] at hcs
      obtain ⟨rfl, rfl, rfl⟩ := hcs
      exact ⟨zs, .inr ⟨_, rfl, hl, hm, by simpa using hz, hcell, hwz⟩⟩
  clear hA0 hval0
  refine (walk a0 len0 cap0 z0 W w0).mono fun e W' ⟨he, bel⟩ => ?_
  subst he
  exact ⟨_, rfl, _, _, _, [], _, [], hW', trodAll_mk1 (shut_bool Try.underlying4 _), (trodAll_cons_mk (Below.trod laidOut (by kernel_rfl) (of_decide_eq_true (by kernel_rfl)) k0 bel lt0) trodAll_mk0), rfl, bel.frame _, fun h => by cases h⟩

theorem over : Rows.accessGrantsRow.holds Try.pinned (OpenSpec.ofChange Rows.accessGrantsSpec) :=
  OpenClaim.holds_of_wide 4 Try.f4 rfl rfl rfl rfl rfl rfl rfl ⟨rfl, rfl, rfl, rfl, rfl⟩ rfl rfl rfl rfl rfl (by kernel_rfl) Try.func4 (by kernel_rfl)
    (of_decide_eq_true (by kernel_rfl)) (by unfold Func.isWrapper; first | (rw [if_pos (by decide +kernel)]; kernel_rfl) | (rw [if_neg (by decide +kernel)]; exact ⟨rfl, rfl⟩))
    (fun os started H enc _ => lifted os started H enc)

/-- ████ THE STATEMENT ████ -/
theorem proved : Rows.AccessGrantsSaid := over
#print axioms proved
end Go.Proofs.Ytfdmneceecaocaa.accessGrants
