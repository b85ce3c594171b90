/-
  The Go function leakresponse/leakresponselaw29.CopiesWays returns true for every list of numbers, and leaves what was there as it was; no conditions. A content is in a place exactly if there is a way, and exactly in its stays.
-/
import Derived.Test.YtfdmneceecaocaaAcI
import Derived.Test.YtfdmneceecaocaaAcJ
import Derived.Test.YtfdmneceecaocaaDjF
import Derived.Test.YtfdmneceecaocaaRows
import Derived.Test.YtfdmneceecaocaaCoO
import Derived.Test.YtfdmneceecaocaaCoV
import Derived.BigQuiet
import Derived.WalkKit
import Derived.ProofKit
import Derived.OpenShut
import Derived.ShutString
import Derived.ChangeOld
import Derived.Below
import Derived.StillTailTactics
import Derived.Deep.CutBlock
namespace Go.Proofs.Ytfdmneceecaocaa.copiesWays
open Go.ChangeShapes Go.WideShapes Go.ChangeAt Go.RowKit
open Go.ChangeMaps (open_string shut_string)
open Go.Proofs.Ytfdmneceecaocaa.Tp
open Go.Proofs.Ytfdmneceecaocaa.Di
set_option linter.unusedVariables false

/-- What stays while the times go on: the estate, its stays, the tape. -/
def LR (w : World) (Q : Nat) (a : Es) (v : Ve) (X : Option Addr) (L : List Sy) (W : World) : Prop :=
  Below w.heap.size w W ∧ TapeOk W w.heap.size ∧ W.heap[Q]? = some (.cells (ge a v) 25 (0, 0)) ∧ EL W (w.heap.size + 1) a v ∧ Row W (w.heap.size + 1) 3 X L.length (sv L)
theorem LR.below {w : World} {Q : Nat} {a : Es} {v : Ve} {X : Option Addr} {L : List Sy} {W W' : World} (h : LR w Q a v X L W) (hb : Below W.heap.size W W') : LR w Q a v X L W' :=
  ⟨h.1.trans (hb.mono h.1.size), tape_below h.2.1 hb, (hb.block _ (row_lt h.2.2.1)).trans h.2.2.1, Row.below h.2.2.2.1 hb, Row.below h.2.2.2.2 hb⟩
theorem LR.next {w : World} {Q : Nat} {a : Es} {v : Ve} {X : Option Addr} {L : List Sy} {W W' : World} (h : LR w Q a v X L W) (hq : w.heap.size < Q) (hg : W.grownBy W' (some w.heap.size)) (ht : TapeOk W' w.heap.size) : LR w Q a v X L W' :=
  ⟨h.1.grown hg h.1.size (fun k e => by cases e; exact Nat.le_refl _), ht, (hg.block _ (row_lt h.2.2.1) (fun e => by injection e; omega)).trans h.2.2.1, Row.grown h.2.2.2.1 hg (fun g e => by cases e; omega), Row.grown h.2.2.2.2 hg (fun g e => by cases e; omega)⟩
def inB (L : List Sy) (p t : Int) (j : Nat) : Bool := (sy L j).p == p && decide ((sy L j).f ≤ t) && decide (t < (sy L j).u)
theorem inB_iff (L : List Sy) (p t : Int) : anyB (inB L p t) L.length = true ↔ inS L p t := by
  rw [any_iff]
  unfold inB inS
  simp only [Bool.and_eq_true, beq_iff_eq, decide_eq_true_eq]
  exact ⟨fun ⟨i, h1, h2⟩ => ⟨i, h1, h2.1.1, h2.1.2, h2.2⟩, fun ⟨i, h1, h2⟩ => ⟨i, h1, ⟨h2.1, h2.2.1⟩, h2.2.2⟩⟩

set_option maxRecDepth 100000 in
set_option maxHeartbeats 8000000 in
theorem walk (a0 : Option Addr) (len0 cap0 : Nat) (z0 : List Int) (w : World) (w0 : IsRow .i64 w a0 len0 cap0 z0) :
    Calls Try.prog 10 #[.slice a0 len0 cap0] w fun e w' => e = .returned (.bool true) ∧ Below w.heap.size w w' := by
  have hm := w0.at_.1
  unfold maxLen at hm
  have HTP := Lib.hid (tape_new w0)
  have HBX := Lib.hid (box_below w (.cells #[.slice a0 len0 cap0, .int .i64 0] 29))
  clear w0
  by_cases hlen : 300 < len0
  · have hl0 : (300 : Int) < (len0 : Int) := by omega
    go_enter Try.func10, Try.ntmps10
    go_wp2_with (go_at_call 32; refine (awake29_any _).mono ?_; rintro e w1 ⟨rfl, hb1⟩; have HB1 := Lib.hid hb1; clear hb1)
    go_ret
    exact ⟨rfl, HB1.out⟩
  · have hl0 : (len0 : Int) ≤ (300 : Int) := by omega
    go_enter Try.func10, Try.ntmps10
    go_wp2_with fail
    refine (directory_any w.heap.size _ HTP.out (by simp)).mono ?_
    rintro e w1 ⟨d, v, rfl, hmk, hrl, hg1, ht1⟩
    have hb1 : Below w.heap.size w w1 := HBX.out.grown hg1 HBX.out.size (fun k e => by cases e; exact Nat.le_refl _)
    have hs1 := hg1.size
    simp at hs1
    have HB1 := Lib.hid hb1
    have HT1 := Lib.hid ht1
    have hn1 := hmk.n1
    have hn7 := hmk.n7
    clear hrl hg1 ht1 hb1 hmk
    go_wp2_with fail
    refine (estate_any w.heap.size d v w1 HT1.out (by omega) hn1 hn7).mono ?_
    rintro e w2 ⟨a, ⟨A, vc⟩, rfl, hme, hel, hg2, ht2⟩
    have hb2 : Below w.heap.size w w2 := HB1.out.grown hg2 HB1.out.size (fun k e => by cases e; exact Nat.le_refl _)
    have hs2 : w.heap.size + 1 ≤ w2.heap.size := by have := hg2.size; omega
    have HQ := Lib.hid (heap_alloc_new w2 (.cells (ge a ⟨A, vc⟩) 25))
    have HEL := Lib.hid (Row.below (hel.base (show w.heap.size + 1 ≤ _ by omega)) (box_below w2 (.cells (ge a ⟨A, vc⟩) 25)))
    have HB2 := Lib.hid (hb2.trans ((box_below w2 (.cells (ge a ⟨A, vc⟩) 25)).mono hb2.size))
    have HT2 := Lib.hid (tape_new2 ht2 (.cells (ge a ⟨A, vc⟩) 25))
    have HME := Lib.hid hme
    have ha1 := hme.ok.n1
    have ha4 := hme.n4
    have ha15 := hme.m15
    clear hel hg2 ht2 hb2 hme HB1 HT1 HBX HTP
    obtain ⟨g0, g1⟩ := geCells HQ.out
    go_wp2_with (with_reducible (show wpList _ _ _ (⟨none, .store 25 (.tmp 4) (.tmp 25), _, _, _, _⟩ :: _) _ _); refine wpList_store_row (o := ⟨none, .store 25 (.tmp 4) (.tmp 25), _, _, _, _⟩) rfl 25 (.tmp 4) (.tmp 25) rfl w2.heap.size (ge a ⟨A, vc⟩) rfl rfl 25 zE (heap_alloc_new _ _) (infoEs _ _) rfl (ge_one _ _) ?_; rw [new_set])
    have lQ : w2.heap.size < (w2.alloc (.cells (ge a ⟨A, vc⟩) 25)).heap.size := row_lt HQ.out
    generalize w2.alloc (.cells (ge a ⟨A, vc⟩) 25) = W1 at *
    generalize w2.heap.size = Q at *
    have HOK := Lib.hid HME.out.ok
    obtain ⟨n, hn⟩ : ∃ n : Nat, a.n = (n : Int) := ⟨a.n.toNat, by omega⟩
    have hn6 : n ≤ 16 := by omega
    have HAN := Lib.hid hn
    have HNX := Lib.hid (fun w' (h : TapeOk w' w.heap.size) => next_any w.heap.size 3 w' h (by omega) (by omega))
    refine (HNX.out _ HT2.out).mono ?_
    rintro e w3 ⟨zc, zc0, zc1, rfl, hg3, ht3⟩
    obtain ⟨c, rfl⟩ : ∃ k : Nat, zc = k := ⟨zc.toNat, by omega⟩
    have hc3 : c < 3 := by omega
    have hQ3 := (hg3.block _ lQ (fun e => by injection e; omega)).trans HQ.out
    have HQ3 := Lib.hid hQ3
    have HE3 := Lib.hid (HEL.out.grown hg3 (fun g e => by cases e; omega))
    have HB3 := Lib.hid (HB2.out.grown hg3 HB2.out.size (fun k e => by cases e; exact Nat.le_refl _))
    have HT3 := Lib.hid ht3
    clear hg3 ht3 g0 g1 HQ HEL HB2 HT2
    obtain ⟨g0, g1⟩ := geCells hQ3
    have HST := Lib.hid (by
      have h := stays_any a ⟨A, vc⟩ (c : Int) n w3 (Row.base HE3.out (Nat.zero_le _)) HOK.out hn (by omega)
      unfold StPost at h
      exact h : Calls Try.prog 38 #[.agg (ge a ⟨A, vc⟩), .int .i64 (c : Int)] w3 fun e w2 => ∃ A cc, e = .returned (.slice A (stL a c n).length cc) ∧ w2.ownsRow w3.heap.size 66 3 (.slice A (stL a c n).length cc) (stL a c n).length (sv (stL a c n)) ∧ Below w3.heap.size w3 w2)
    have HIN := Lib.hid (fun (p t : Nat) (hp : p < n) (ht : t ≤ 50) => stL_in HOK.out (c : Int) hp (t : Int) (by omega))
    have hll := stL_len a (c : Int) hn6
    have HFE := Lib.hid (show (#[.int .i64 a.n, .slice A a.e.length vc] : Array Value) = ge a ⟨A, vc⟩ from rfl)
    generalize stL a (c : Int) n = L at *
    obtain ⟨ll, hl⟩ : ∃ ll, L.length = ll := ⟨_, rfl⟩
    have HLL := Lib.hid hl
    rw [hl] at HST hll
    clear hl hQ3 hn
    go_wp2_with (go_at_call 38; rw [HFE.out]; refine HST.out.mono ?_; rintro e w4 ⟨X, xc, rfl, hown, hb4⟩; have HLR := Lib.hid (show LR w Q a ⟨A, vc⟩ X L w4 from ⟨HB3.out.trans (hb4.mono HB3.out.size), tape_below HT3.out hb4, (hb4.block _ (row_lt HQ3.out)).trans HQ3.out, Row.below HE3.out hb4, (by rw [HLL.out]; exact (row_of_own hown).base (by have := HB3.out.size; have := row_lt HQ3.out; omega))⟩); clear hown hb4 g0 g1 HST)
    go_loopw [7] (fun ti wr => ∃ t : Nat, t ≤ 45 ∧ ti = .int .i64 (t : Int) ∧ LR w Q a ⟨A, vc⟩ X L wr) (fun ti _ => (45 - (intOf ti).toNat))
    case atStart => exact ⟨0, by omega, rfl, HLR.out⟩
    case round =>
      obtain ⟨t, ht, rfl, hlr⟩ := hrel
      rename World => wt
      have HLT := Lib.hid hlr
      obtain ⟨g0, g1⟩ := geCells hlr.2.2.1
      by_cases hlt : t < 40
      · have d0 : decide ((t : Int) < 40) = true := decide_eq_true (by omega)
        have hwa := where_any a ⟨A, vc⟩ (c : Int) (t : Int) n wt (Row.base hlr.2.2.2.1 (Nat.zero_le _)) HOK.out HAN.out (by omega)
        unfold SmPost at hwa
        have HXQ := Lib.hid (fun p (hp : p < n) => has_idx (wB a (c : Int) (t : Int)) n p hp)
        have hnm := cnt_le (wB a (c : Int) (t : Int)) n
        have HWQ := Lib.hid (fun p : Nat => (rfl : wB a (c : Int) (t : Int) p = wB a (c : Int) (t : Int) p))
        have HINT := Lib.hid (fun p hp => HIN.out p t hp (by omega))
        generalize hq : wB a (c : Int) (t : Int) = q at *
        have HQQ := Lib.hid hq
        generalize idx q n = LM at *
        generalize cnt q n = nm at *
        have HWA := Lib.hid hwa
        clear hwa hlr hq HWQ
        go_wp2_with (go_at_call 35; rw [HFE.out]; (with_reducible refine HWA.out.mono ?_); rintro e w5 ⟨Y, yc, rfl, hown, hb5⟩; have HL5 := Lib.hid (HLT.out.below hb5); have HY := Lib.hid ((row_of_own hown).base (Nat.zero_le _)); clear hown hb5 g0 g1 HWA)
        go_loopw [9] (fun pp wr => ∃ p : Nat, p ≤ n ∧ pp = .int .i64 (p : Int) ∧ Below w5.heap.size w5 wr) (fun pp _ => (n - (intOf pp).toNat))
        case atStart => exact ⟨0, by omega, rfl, Below.refl _ _⟩
        case round =>
          obtain ⟨p, hp, rfl, hbl⟩ := hrel
          rename World => wv
          have HBL := Lib.hid hbl
          have hlv := HL5.out.below hbl
          have HLV := Lib.hid hlv
          obtain ⟨g0, g1⟩ := geCells hlv.2.2.1
          by_cases hlp : p < n
          · have d9 : decide ((p : Int) < a.n) = true := decide_eq_true (by rw [HAN.out]; omega)
            have hway := way_any a ⟨A, vc⟩ (c : Int) (t : Int) p n wv (Row.base hlv.2.2.2.1 (Nat.zero_le _)) HOK.out HAN.out hlp (by omega)
            unfold WaPost at hway
            have HHD := Lib.hid (fun w' (hb : Below wv.heap.size wv w') => (by
              have h := holds_any a ⟨A, vc⟩ p (t : Int) n w' (Row.base (hlv.below hb).2.2.2.1 (Nat.zero_le _)) HOK.out HAN.out hlp
              unfold SmPost at h
              exact h : Calls Try.prog 33 #[.agg (ge a ⟨A, vc⟩), .int .i64 (p : Int), .int .i64 (t : Int)] w' fun e w2 => ∃ A cc, e = .returned (.slice A (cnt (fun c => wB a (c : Int) (t : Int) p) 64) cc) ∧ w2.ownsRow w'.heap.size 3 1 (.slice A (cnt (fun c => wB a (c : Int) (t : Int) p) 64) cc) (cnt (fun c => wB a (c : Int) (t : Int) p) 64) (iv (idx (fun c => wB a (c : Int) (t : Int) p) 64)) ∧ Below w'.heap.size w' w2))
            have HX64 := Lib.hid (show anyB (fun j => (idx (fun c : Nat => wB a (c : Int) (t : Int) p) 64).getD j 0 == c) (cnt (fun c : Nat => wB a (c : Int) (t : Int) p) 64) = q p from (has_idx (fun c : Nat => wB a (c : Int) (t : Int) p) 64 c (by omega)).trans (by show wB a (c : Int) (t : Int) p = q p; rw [HQQ.out]))
            have hc64 := cnt_le (fun c : Nat => wB a (c : Int) (t : Int) p) 64
            generalize idx (fun c : Nat => wB a (c : Int) (t : Int) p) 64 = L64 at *
            generalize cnt (fun c : Nat => wB a (c : Int) (t : Int) p) 64 = n64 at *
            have hxp := HXQ.out p hlp
            have hin := HINT.out p hlp
            have hwq : wB a (c : Int) (t : Int) p = q p := by rw [HQQ.out]
            have hwl : (wyA a.e (c : Int) (t : Int) (p : Int)).length ≤ 120 := Nat.le_trans (wy_len a.e c t a.e.length p) HOK.out.m
            have hpv := fun (h0 : q p = true) (Aw : Option Addr) (cc : Nat) w' (hb : Below wv.heap.size wv w') (hr : Row w' 0 1 Aw (wyA a.e (c : Int) (t : Int) (p : Int)).length (iv (wyA a.e (c : Int) (t : Int) (p : Int)))) => (by
              have hne : wyA a.e (c : Int) (t : Int) (p : Int) ≠ [] := fun e => by rw [← hwq, wB_zero (by rw [e]; rfl)] at h0; cases h0
              exact proves_yes a ⟨A, vc⟩ (c : Int) (t : Int) p n cc _ Aw w' (Row.base (hlv.below hb).2.2.2.1 (Nat.zero_le _)) HOK.out HAN.out hlp (by omega) hr (List.length_pos_iff.2 hne) (by omega) (wy_is a.e c t a.e.length p hne) : Calls Try.prog 44 #[.agg (ge a ⟨A, vc⟩), .int .i64 (c : Int), .int .i64 (p : Int), .int .i64 (t : Int), .slice Aw (wyA a.e (c : Int) (t : Int) (p : Int)).length cc] w' fun e w'' => e = .returned (.bool true) ∧ Below w'.heap.size w' w'')
            rw [hwq] at hway
            generalize q p = bo at *
            generalize wyA a.e (c : Int) (t : Int) (p : Int) = LW at *
            obtain ⟨lw, hlw⟩ : ∃ lw, LW.length = lw := ⟨_, rfl⟩
            rw [hlw] at hway hpv hwl
            have HWY := Lib.hid hway
            have HPV := Lib.hid hpv
            have HXP := Lib.hid hxp
            have HIP := Lib.hid hin
            clear hway hpv hxp hin hwq hlv hbl hlw
            go_wp2_with (go_at_call 40; rw [HFE.out]; (with_reducible refine HWY.out.mono ?_); rintro e w6 ⟨Aw, wc, rfl, hown, hb6⟩; have HB6 := Lib.hid hb6; have HRW := Lib.hid ((row_of_own hown).base (Nat.zero_le _)); clear hown hb6 g0 g1 HWY)
            go_loopw [12, 58] (fun pv ii wr => ∃ k : Nat, k ≤ ll ∧ pv = .bool (anyB (inB L (p : Int) (t : Int)) k) ∧ ii = .int .i64 (k : Int) ∧ Below w6.heap.size w6 wr) (fun _ ii _ => ll - (intOf ii).toNat)
            case atStart => exact ⟨0, by omega, rfl, rfl, Below.refl _ _⟩
            case round =>
              obtain ⟨k, hk, rfl, rfl, hbl⟩ := hrel
              rename World => wz
              have B6Z := Lib.hid hbl
              have BZ := Lib.hid (HB6.out.trans (hbl.mono HB6.out.size))
              by_cases hlk : k < ll
              · obtain ⟨b, off, hX, y0, y1, y2⟩ := Row.stay (by have := (HLV.out.below BZ.out).2.2.2.2; rw [HLL.out] at this; exact this) hlk
                subst hX
                have HAS := Lib.hid (show anyB (inB L (p : Int) (t : Int)) (k + 1) = (anyB (inB L (p : Int) (t : Int)) k || ((sy L k).p == (p : Int) && decide ((sy L k).f ≤ (t : Int)) && decide ((t : Int) < (sy L k).u))) from rfl)
                generalize anyB (inB L (p : Int) (t : Int)) k = bq at *
                generalize sy L k = x at *
                obtain ⟨xp, xf, xu⟩ := x
                simp only at y0 y1 y2
                have hbx := box_below wz (.cells #[.int .i64 xp, .int .i64 xf, .int .i64 xu] 66)
                have XN := Lib.hid (heap_alloc_new wz (.cells #[.int .i64 xp, .int .i64 xf, .int .i64 xu] 66))
                have n0 : (wz.alloc (.cells #[.int .i64 xp, .int .i64 xf, .int .i64 xu] 66)).cell? ⟨wz.heap.size, 0, none⟩ = some (.int .i64 xp) := by rw [cell_of_row _ _ _ _ _ _ XN.out]; rfl
                have n1 : (wz.alloc (.cells #[.int .i64 xp, .int .i64 xf, .int .i64 xu] 66)).cell? ⟨wz.heap.size, 1, none⟩ = some (.int .i64 xf) := by rw [cell_of_row _ _ _ _ _ _ XN.out]; rfl
                have n2 : (wz.alloc (.cells #[.int .i64 xp, .int .i64 xf, .int .i64 xu] 66)).cell? ⟨wz.heap.size, 2, none⟩ = some (.int .i64 xu) := by rw [cell_of_row _ _ _ _ _ _ XN.out]; rfl
                have BX := Lib.hid (hbl.trans (hbx.mono hbl.size))
                have i0' : (0 : Int) ≤ (k : Int) := by omega
                have i1' : (k : Int) < (ll : Int) := by omega
                clear hbx hbl
                cases bq with
                | true =>
                  go_wp2_with fail
                  exact ⟨⟨k + 1, by omega, by rw [HAS.out]; rfl, by go_num, BX.out⟩, by simp [intOf]; omega⟩
                | false =>
                  by_cases h1 : xp = (p : Int)
                  · have e1 : (xp == (p : Int)) = true := by rw [h1]; simp
                    by_cases h2 : xf ≤ (t : Int)
                    · have e2 : decide (xf ≤ (t : Int)) = true := decide_eq_true h2
                      by_cases h3 : (t : Int) < xu
                      · have e3 : decide ((t : Int) < xu) = true := decide_eq_true h3
                        have HB9 := Lib.hid (HAS.out.trans (by simp only [e1, e2, e3]; rfl : _ = true))
                        clear h1 h2 h3
                        go_wp2_with fail
                        exact ⟨⟨k + 1, by omega, by rw [HB9.out], by go_num, BX.out⟩, by simp [intOf]; omega⟩
                      · have e3 : decide ((t : Int) < xu) = false := decide_eq_false h3
                        have HB9 := Lib.hid (HAS.out.trans (by simp only [e1, e2, e3]; rfl : _ = false))
                        clear h1 h2 h3
                        go_wp2_with fail
                        exact ⟨⟨k + 1, by omega, by rw [HB9.out], by go_num, BX.out⟩, by simp [intOf]; omega⟩
                    · have e2 : decide (xf ≤ (t : Int)) = false := decide_eq_false h2
                      have HB9 := Lib.hid (HAS.out.trans (by simp only [e1, e2]; rfl : _ = false))
                      clear h1 h2
                      go_wp2_with fail
                      exact ⟨⟨k + 1, by omega, by rw [HB9.out], by go_num, BX.out⟩, by simp [intOf]; omega⟩
                  · have e1 : (xp == (p : Int)) = false := beq_eq_false_iff_ne.2 h1
                    have HB9 := Lib.hid (HAS.out.trans (by simp only [e1]; rfl : _ = false))
                    clear h1
                    go_wp2_with fail
                    exact ⟨⟨k + 1, by omega, by rw [HB9.out], by go_num, BX.out⟩, by simp [intOf]; omega⟩
              · obtain rfl : ll = k := by omega
                have HIB := Lib.hid (show anyB (inB L (p : Int) (t : Int)) ll = bo by
                  have h1 := (inB_iff L (p : Int) (t : Int)).trans HIP.out
                  rw [HLL.out] at h1
                  exact Bool.eq_iff_iff.2 h1)
                have hhy := has_any LM p Y nm yc wz (Row.below HY.out (HBL.out.trans (BZ.out.mono HBL.out.size))) (by omega)
                rw [HXP.out] at hhy
                have HHY := Lib.hid hhy
                obtain ⟨g0, g1⟩ := geCells (HLV.out.below BZ.out).2.2.1
                have HRZ := Lib.hid (HRW.out.below hbl)
                have HH3 := Lib.hid (fun X64 c64 w' (hr : Row w' 0 1 X64 n64 (iv L64)) => (by have h := has_any L64 c X64 n64 c64 w' hr (by omega); rw [HX64.out] at h; exact h : Calls Try.prog 31 #[.slice X64 n64 c64, .int .i64 (c : Int)] w' fun e w'' => e = .returned (.bool bo) ∧ w'' = w'))
                rw [HIB.out]
                clear hbl hhy
                cases bo with
                | false =>
                  go_wp2_with (first
                    | (go_at_call 31; (with_reducible refine HHY.out.mono ?_); rintro e wa ⟨rfl, rfl⟩)
                    | (go_at_call 33; rw [HFE.out]; (with_reducible refine (HHD.out _ BZ.out).mono ?_); rintro e wb ⟨X6, c6, rfl, hown, hbb⟩; have BB := Lib.hid (BZ.out.trans (hbb.mono BZ.out.size)); have HR6 := Lib.hid ((row_of_own hown).base (Nat.zero_le _)); have HRB := Lib.hid (HRZ.out.below hbb); clear hown hbb g0 g1; obtain ⟨g0, g1⟩ := geCells (HLV.out.below BB.out).2.2.1)
                    | (go_at_call 31; (with_reducible refine (HH3.out _ _ _ HR6.out).mono ?_); rintro e wb ⟨rfl, rfl⟩))
                  exact ⟨⟨p + 1, by omega, by go_num, HBL.out.trans (BB.out.mono HBL.out.size)⟩, by simp [intOf]; omega⟩
                | true =>
                  go_wp2_with (first
                    | (go_at_call 31; (with_reducible refine HHY.out.mono ?_); rintro e wa ⟨rfl, rfl⟩)
                    | (go_at_call 33; rw [HFE.out]; (with_reducible refine (HHD.out _ BZ.out).mono ?_); rintro e wb ⟨X6, c6, rfl, hown, hbb⟩; have BB := Lib.hid (BZ.out.trans (hbb.mono BZ.out.size)); have HR6 := Lib.hid ((row_of_own hown).base (Nat.zero_le _)); have HRP := Lib.hid (HRZ.out.below hbb); clear hown hbb g0 g1; obtain ⟨g0, g1⟩ := geCells (HLV.out.below BB.out).2.2.1)
                    | (go_at_call 31; (with_reducible refine (HH3.out _ _ _ HR6.out).mono ?_); rintro e wb ⟨rfl, rfl⟩)
                    | (go_at_call 44; rw [HFE.out]; (with_reducible refine (HPV.out (by simp) _ _ _ BB.out HRP.out).mono ?_); rintro e wc ⟨rfl, hbc⟩; have BC := Lib.hid (BB.out.trans (hbc.mono BB.out.size)); clear hbc))
                  exact ⟨⟨p + 1, by omega, by go_num, HBL.out.trans (BC.out.mono HBL.out.size)⟩, by simp [intOf]; omega⟩
          · obtain rfl : n = p := by omega
            have d9 : decide ((n : Int) < a.n) = false := decide_eq_false (by rw [HAN.out]; omega)
            clear hbl
            go_wp2_with (go_at_call 23; refine (HNX.out _ HLV.out.2.1).mono ?_; rintro e w7 ⟨zk, k0, k1, rfl, hg7, ht7⟩; obtain ⟨tz, rfl⟩ : ∃ k : Nat, zk = k := ⟨zk.toNat, by omega⟩; have HL7 := Lib.hid (HLV.out.next (by omega) hg7 ht7); clear hg7 ht7)
            exact ⟨⟨t + (1 + tz), by omega, by go_num, HL7.out⟩, by simp [intOf]; omega⟩
      · have d0 : decide ((t : Int) < 40) = false := decide_eq_false (by omega)
        have HB8 := Lib.hid hlr.1
        clear hlr
        go_wp2_with (go_at_call 32; refine (awake29_any _).mono ?_; rintro e w9 ⟨rfl, hb9⟩; have HB9 := Lib.hid (HB8.out.trans (hb9.mono HB8.out.size)); clear hb9)
        go_ret
        exact ⟨by first | rfl | simp, HB9.out⟩

/-! ### THE ROW's STEP: WRITTEN OUT: LEAVE IT -/
set_option maxRecDepth 100000 in
theorem lifted (os : Os) (started : os.Started) (H : Type) (enc : TypeId × Value → H) :
    ReturnsInHanded {} Try.checked os 10 .any (Rows.copiesWaysSpec.pre6 enc Try.prog Try.f10 Rows.copiesWaysRow.domain false) (Rows.copiesWaysSpec.post enc Try.prog Try.f10 false true false false) := by
  refine returnsInHanded_of_change (C := Try.checked) own started (by kernel_rfl) Try.func10
    (ChangeSpec.witness6 (enc := enc) (C := Try.checked) false ⟨#[], #[.slice none 0 0], []⟩ 8 (by kernel_rfl) (by kernel_rfl) (by kernel_rfl) (by kernel_rfl)) ?_
  intro W base args ds gs before hval0 hW hcnd _
  have hval : ∀ (j : Nat) t v, Try.f10.params[j]? = some t → args[j]? = some v → Value.okWide Try.prog W .any base t v := hval0
  have hW' := hW
  obtain ⟨p, q, hA0, hV, rfl, hfz, hnd⟩ := hW
  have hA : DataW.TrodAll enc Try.prog W 0 (fun _ => true) true Try.f10.params.toList args.toList ds p := hA0
  rw [Try.params10] at hA hval
  obtain ⟨v0, vs0, d0, ds0, p0, q0, hargs, rfl, rfl, h0, r0⟩ := trodAll_cons hA
  obtain ⟨rfl, rfl, rfl⟩ := trodAll_nil r0
  obtain rfl : args = #[v0] := by cases args; simp_all
  obtain ⟨rfl, rfl⟩ := trodVars_none hV
  obtain ⟨a0, len0, cap0, rfl⟩ := okWide_slice Try.underlying22 (hval 0 22 v0 rfl rfl)
  have k0 := h0
  have lt0 : ∀ x ∈ p0, x.block < W.heap.size := by obtain ⟨m, hm⟩ := k0; exact DataW.trod_lt m _ _ _ hm
  obtain ⟨z0, w0⟩ : ∃ zs, IsRow .i64 W a0 len0 cap0 zs := by
    obtain ⟨fuel, hf⟩ := h0
    rcases open_ints Try.underlying22 Try.underlying3 (by kernel_rfl) hf with ⟨hcs, _⟩ | ⟨x, l, c, zs, hcs, _, hl, hm, hz, _, hcell, hwz⟩
    · simp [Value.cells] at hcs
      obtain ⟨rfl, rfl, rfl⟩ := hcs
      exact ⟨[], .inl ⟨rfl, rfl, rfl, rfl⟩⟩
    · simp [Value.cells] at hcs
      obtain ⟨rfl, rfl, rfl⟩ := hcs
      exact ⟨zs, .inr ⟨_, rfl, hl, hm, by simpa using hz, hcell, hwz⟩⟩
  clear hA0 hval0
  refine (walk a0 len0 cap0 z0 W w0).mono fun e W' ⟨he, bel⟩ => ?_
  subst he
  exact ⟨_, rfl, _, _, _, [], _, [], hW', trodAll_mk1 (shut_bool Try.underlying4 _), (trodAll_cons_mk (Below.trod laidOut (by kernel_rfl) (of_decide_eq_true (by kernel_rfl)) k0 bel lt0) trodAll_mk0), rfl, bel.frame _, fun h => by cases h⟩

theorem over : Rows.copiesWaysRow.holds Try.pinned (OpenSpec.ofChange Rows.copiesWaysSpec) :=
  OpenClaim.holds_of_wide 10 Try.f10 rfl rfl rfl rfl rfl rfl rfl ⟨rfl, rfl, rfl, rfl, rfl⟩ rfl rfl rfl rfl rfl (by kernel_rfl) Try.func10 (by kernel_rfl)
    (of_decide_eq_true (by kernel_rfl)) (by unfold Func.isWrapper; first | (rw [if_pos (by decide +kernel)]; kernel_rfl) | (rw [if_neg (by decide +kernel)]; exact ⟨rfl, rfl⟩))
    (fun os started H enc _ => lifted os started H enc)

/-- ████ THE STATEMENT ████ -/
theorem proved : Rows.CopiesWaysSaid := over
#print axioms proved
end Go.Proofs.Ytfdmneceecaocaa.copiesWays
