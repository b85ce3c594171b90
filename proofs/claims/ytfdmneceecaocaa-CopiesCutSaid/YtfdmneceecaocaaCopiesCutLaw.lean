/-
  The Go function leakresponse/leakresponselaw29.CopiesCut returns true for every list of numbers, and leaves what was there as it was; no conditions. What happens later changes nothing of where a content is, and one that is never put is nowhere.
-/
import Derived.Test.YtfdmneceecaocaaAcI
import Derived.Test.YtfdmneceecaocaaAcJ
import Derived.Test.YtfdmneceecaocaaDjF
import Derived.Test.YtfdmneceecaocaaRows
import Derived.Test.YtfdmneceecaocaaCoO
import Derived.Test.YtfdmneceecaocaaCoR
import Derived.BigQuiet
import Derived.WalkKit
import Derived.ProofKit
import Derived.OpenShut
import Derived.ShutString
import Derived.ChangeOld
import Derived.Below
import Derived.StillTailTactics
import Derived.Deep.CutBlock
namespace Go.Proofs.Ytfdmneceecaocaa.copiesCut
open Go.ChangeShapes Go.WideShapes Go.ChangeAt Go.RowKit
open Go.ChangeMaps (open_string shut_string)
open Go.Proofs.Ytfdmneceecaocaa.Tp
open Go.Proofs.Ytfdmneceecaocaa.Di
set_option linter.unusedVariables false

/-- While events are gathered: L lie in the estate in box C. -/
def CRel (B C : Nat) (n : Int) (L : List Ac) (W : World) : Prop := ∃ (A' : Option Addr) (c' : Nat), W.heap[C]? = some (.cells (ge ⟨n, L⟩ ⟨A', c'⟩) 25 (0, 0)) ∧ W.ownsRow B 52 7 (.slice A' L.length c') L.length (av L)
theorem crel_below {B C : Nat} {n : Int} {L : List Ac} {W W' : World} (h : CRel B C n L W) (hb : Below W.heap.size W W') : CRel B C n L W' := by
  obtain ⟨A', c', h1, h2⟩ := h
  exact ⟨A', c', (hb.block _ (row_lt h1)).trans h1, own_below h2 hb⟩
theorem crel_q {B C : Nat} {n : Int} {L : List Ac} {A' : Option Addr} {c' : Nat} {W w12 : World} {o : Obj} (hq : W.heap[C]? = some (.cells (ge ⟨n, L⟩ ⟨A', c'⟩) 25 (0, 0))) (ho : W.ownsRow B 52 7 (.slice A' L.length c') L.length (av L)) (hgr : (W.alloc o).grownBy w12 (Value.slice A' L.length c').ownBlock) : w12.heap[C]? = some (.cells (ge ⟨n, L⟩ ⟨A', c'⟩) 25 (0, 0)) := by
  have h1 := (heap_alloc_old W o (row_lt hq)).trans hq
  exact (hgr.block C (by have := row_lt hq; simp; omega) (fun e => own_not (own_below ho (box_below W o)) h1 (by decide) e.symm)).trans h1
theorem crel_add {B C : Nat} {n : Int} {L : List Ac} {x : Ac} {A' A2 : Option Addr} {c' c2 : Nat} {W w12 : World} {o : Obj} (hq : W.heap[C]? = some (.cells (ge ⟨n, L⟩ ⟨A', c'⟩) 25 (0, 0))) (ho : W.ownsRow B 52 7 (.slice A' L.length c') L.length (av L)) (hgr : (W.alloc o).grownBy w12 (Value.slice A' L.length c').ownBlock)
    (ho2 : w12.ownsRow B 52 7 (.slice A2 (L.length + 1) c2) (L.length + 1) (av L ++ [.int .i64 x.t, .int .i64 x.k, .int .i64 x.p, .int .i64 x.r, .int .i64 x.u, .int .i64 x.c, .int .i64 x.f])) : CRel B C n (L ++ [x]) (w12.setRow C ((ge ⟨n, L⟩ ⟨A', c'⟩).setIfInBounds 1 (.slice A2 (L.length + 1) c2))) := by
  have hlen : (L ++ [x]).length = L.length + 1 := by simp
  have hq2 := crel_q hq ho hgr
  refine ⟨A2, c2, ?_, ?_⟩
  · rw [setRow_heap _ _ _ _ _ _ hq2]
    unfold ge
    rw [hlen]
    rfl
  · rw [hlen, av_snoc]
    exact kept_ne ho2 (gb_setRow _ _ _) (fun g e => by cases e; exact own_not ho2 hq2 (by decide))

set_option maxRecDepth 100000 in
set_option maxHeartbeats 8000000 in
theorem walk (a0 : Option Addr) (len0 cap0 : Nat) (z0 : List Int) (w : World) (w0 : IsRow .i64 w a0 len0 cap0 z0) :
    Calls Try.prog 13 #[.slice a0 len0 cap0] w fun e w' => e = .returned (.bool true) ∧ Below w.heap.size w w' := by
  have hm := w0.at_.1
  unfold maxLen at hm
  have HTP := Lib.hid (tape_new w0)
  have HBX := Lib.hid (box_below w (.cells #[.slice a0 len0 cap0, .int .i64 0] 29))
  clear w0
  by_cases hlen : 300 < len0
  · have hl0 : (300 : Int) < (len0 : Int) := by omega
    go_enter Try.func13, Try.ntmps13
    go_wp2_with (go_at_call 32; refine (awake29_any _).mono ?_; rintro e w1 ⟨rfl, hb1⟩; have HB1 := Lib.hid hb1; clear hb1)
    go_ret
    exact ⟨rfl, HB1.out⟩
  · have hl0 : (len0 : Int) ≤ (300 : Int) := by omega
    go_enter Try.func13, Try.ntmps13
    go_wp2_with fail
    refine (directory_any w.heap.size _ HTP.out (by simp)).mono ?_
    rintro e w1 ⟨d, v, rfl, hmk, hrl, hg1, ht1⟩
    have hb1 : Below w.heap.size w w1 := HBX.out.grown hg1 HBX.out.size (fun k e => by cases e; exact Nat.le_refl _)
    have hs1 := hg1.size
    simp at hs1
    have HB1 := Lib.hid hb1
    have HT1 := Lib.hid ht1
    have hn1 := hmk.n1
    have hn7 := hmk.n7
    clear hrl hg1 ht1 hb1 hmk
    go_wp2_with fail
    refine (estate_any w.heap.size d v w1 HT1.out (by omega) hn1 hn7).mono ?_
    rintro e w2 ⟨a, ⟨A, vc⟩, rfl, hme, hel, hg2, ht2⟩
    have hb2 : Below w.heap.size w w2 := HB1.out.grown hg2 HB1.out.size (fun k e => by cases e; exact Nat.le_refl _)
    have hs2 : w.heap.size + 1 ≤ w2.heap.size := by have := hg2.size; omega
    have HQ := Lib.hid (heap_alloc_new w2 (.cells (ge a ⟨A, vc⟩) 25))
    have HEL := Lib.hid (Row.below (hel.base (show w.heap.size + 1 ≤ _ by omega)) (box_below w2 (.cells (ge a ⟨A, vc⟩) 25)))
    have HB2 := Lib.hid (hb2.trans ((box_below w2 (.cells (ge a ⟨A, vc⟩) 25)).mono hb2.size))
    have HT2 := Lib.hid (tape_new2 ht2 (.cells (ge a ⟨A, vc⟩) 25))
    have HME := Lib.hid hme
    have ha1 := hme.ok.n1
    have ha4 := hme.n4
    have ha15 := hme.m15
    clear hel hg2 ht2 hb2 hme HB1 HT1 HBX HTP
    obtain ⟨g0, g1⟩ := geCells HQ.out
    go_wp2_with (with_reducible (show wpList _ _ _ (⟨none, .store 25 (.tmp 4) (.tmp 23), _, _, _, _⟩ :: _) _ _); refine wpList_store_row (o := ⟨none, .store 25 (.tmp 4) (.tmp 23), _, _, _, _⟩) rfl 25 (.tmp 4) (.tmp 23) rfl w2.heap.size (ge a ⟨A, vc⟩) rfl rfl 25 zE (heap_alloc_new _ _) (infoEs _ _) rfl (ge_one _ _) ?_; rw [new_set])
    have lQ : w2.heap.size < (w2.alloc (.cells (ge a ⟨A, vc⟩) 25)).heap.size := row_lt HQ.out
    generalize w2.alloc (.cells (ge a ⟨A, vc⟩) 25) = W1 at *
    generalize w2.heap.size = Q at *
    refine (next_any w.heap.size 32 _ HT2.out (by omega) (by omega)).mono ?_
    rintro e w3 ⟨zt, zt0, zt1, rfl, hg3, ht3⟩
    obtain ⟨t, rfl⟩ : ∃ k : Nat, zt = k := ⟨zt.toNat, by omega⟩
    have HQ3 := Lib.hid ((hg3.block _ lQ (fun e => by injection e; omega)).trans HQ.out)
    have HE3 := Lib.hid (HEL.out.grown hg3 (fun g e => by cases e; omega))
    have HB3 := Lib.hid (HB2.out.grown hg3 HB2.out.size (fun k e => by cases e; exact Nat.le_refl _))
    clear hg3 ht3 g0 g1 HQ HEL HB2 HT2
    obtain ⟨m, hm1, hm2⟩ := HME.out.ok.hap (t : Int)
    have HM := Lib.hid hm2
    clear hm2
    obtain ⟨g0, g1⟩ := geCells HQ3.out
    have hbc := box_below w3 (.cells #[.int .i64 a.n, .slice none 0 0] 25)
    have HC4 := Lib.hid (show (w3.alloc (.cells #[.int .i64 a.n, .slice none 0 0] 25)).heap[w3.heap.size]? = some (.cells (ge ⟨a.n, []⟩ ⟨none, 0⟩) 25 (0, 0)) from heap_alloc_new w3 _)
    have HQ4 := Lib.hid ((hbc.block _ (row_lt HQ3.out)).trans HQ3.out)
    have HE4 := Lib.hid (Row.below HE3.out hbc)
    have HB4 := Lib.hid (HB3.out.trans (hbc.mono HB3.out.size))
    have lC := row_lt HC4.out
    have lQ3 : Q < w3.heap.size := row_lt HQ3.out
    have z0 := fun o => (World.cell?_alloc_lt w3 o _ lQ3).trans g0
    have z1 := fun o => (World.cell?_alloc_lt w3 o _ lQ3).trans g1
    have HEF := Lib.hid (fun wr (h : Below w3.heap.size w3 wr) => Row.base (B' := 0) (Row.below HE3.out h) (Nat.zero_le _))
    have HQF := Lib.hid (fun wr (h : Below w3.heap.size w3 wr) => (h.block _ lQ3).trans HQ3.out)
    have HBF := Lib.hid (fun wr (h : Below w3.heap.size w3 wr) => HB3.out.trans (h.mono HB3.out.size))
    have HB34 := Lib.hid hbc
    clear hbc HE4 HQ4 HB4
    go_wp2_with fail
    clear z0 z1 g0 g1
    generalize w3.alloc (.cells #[.int .i64 a.n, .slice none 0 0] 25) = W4 at *
    generalize w3.heap.size = C at *
    obtain ⟨j0, hj1, hy0, hy1, hy2⟩ := info_parts zinfoAc
    have HJ := Lib.hid hj1
    have HJ0 := Lib.hid hy0
    have HJ1 := Lib.hid hy1
    have HJ2 := Lib.hid hy2
    clear hj1 hy0 hy1 hy2 HQ3 HE3 HB3
    go_loopw [32] (fun ii wr => ∃ k : Nat, k ≤ a.e.length ∧ ii = .int .i64 (k : Int) ∧ CRel C C a.n (a.e.take (min k m)) wr ∧ Below C w3 wr ∧ W4.heap.size ≤ wr.heap.size) (fun ii _ => a.e.length - (intOf ii).toNat)
    case atStart => exact ⟨0, by omega, rfl, ⟨none, 0, by rw [Nat.zero_min]; exact HC4.out, by rw [Nat.zero_min]; exact own_nil _ _ _ _⟩, HB34.out, Nat.le_refl _⟩
    case round =>
      obtain ⟨k, hk, rfl, ⟨A', c', hc, ho⟩, hbl, hsz⟩ := hrel
      have HC := Lib.hid hc
      have HO := Lib.hid ho
      have HBL := Lib.hid hbl
      obtain ⟨v0, v1⟩ := geCells hc
      have q1 : wr.frozen? ⟨C, 1, none⟩ = false := frozen_of_row _ _ _ _ _ hc
      clear hc ho hbl HC4
      by_cases hlt : k < a.e.length
      · obtain ⟨b, off, hA, -, hbk, hac⟩ := (HEF.out _ HBL.out).ac hlt
        have hA : A = some ⟨b, off, none⟩ := hA
        subst hA
        obtain ⟨y0, y1, y2, y3, y4, y5, y6⟩ := hac
        have HTS := Lib.hid (take_snocA a.e hlt)
        have HMK := Lib.hid (HM.out k hlt)
        have hcw : C < wr.heap.size := row_lt HC.out
        generalize ag a.e k = x at *
        obtain ⟨xt, xk, xp, xr, xu, xc, xf⟩ := x
        simp only at y0 y1 y2 y3 y4 y5 y6
        have hmk := HMK.out
        simp only at hmk
        have HMK := Lib.hid hmk
        have hbx := box_below wr (.cells #[.int .i64 xt, .int .i64 xk, .int .i64 xp, .int .i64 xr, .int .i64 xu, .int .i64 xc, .int .i64 xf] 52)
        have HBX := Lib.hid (HBL.out.trans (hbx.mono (Nat.le_of_lt hcw)))
        have XN := Lib.hid (heap_alloc_new wr (.cells #[.int .i64 xt, .int .i64 xk, .int .i64 xp, .int .i64 xr, .int .i64 xu, .int .i64 xc, .int .i64 xf] 52))
        have CX := Lib.hid ((hbx.block _ hcw).trans HC.out)
        have OX := Lib.hid (own_below HO.out hbx)
        obtain ⟨n0, n1, n2, n3, n4, n5, n6⟩ := accCells (x := ⟨xt, xk, xp, xr, xu, xc, xf⟩) XN.out
        simp only at n0 n1 n2 n3 n4 n5 n6
        have j0' : (0 : Int) ≤ (k : Int) := by omega
        have j1' : (k : Int) < (a.e.length : Int) := by omega
        have hzx : W4.heap.size ≤ (wr.alloc (.cells #[.int .i64 xt, .int .i64 xk, .int .i64 xp, .int .i64 xr, .int .i64 xu, .int .i64 xc, .int .i64 xf] 52)).heap.size := by simp; omega
        have HZX := Lib.hid hzx
        have hll : (a.e.take (min k m)).length ≤ 15 := by rw [List.length_take]; omega
        clear hbx hmk hzx
        by_cases ht : xt ≤ (t : Int)
        · have d1 : decide (xt ≤ (t : Int)) = true := decide_eq_true ht
          have hkm : k < m := HMK.out.1 ht
          have HTK := Lib.hid (show a.e.take (min (k + 1) m) = a.e.take (min k m) ++ [⟨xt, xk, xp, xr, xu, xc, xf⟩] by rw [Nat.min_eq_left (by omega), Nat.min_eq_left (by omega)]; exact HTS.out)
          have HNW := Lib.hid (fun o => (by have := heap_alloc_new (wr.alloc (.cells #[.int .i64 xt, .int .i64 xk, .int .i64 xp, .int .i64 xr, .int .i64 xu, .int .i64 xc, .int .i64 xf] 52)) o; rwa [show (wr.alloc (.cells #[.int .i64 xt, .int .i64 xk, .int .i64 xp, .int .i64 xr, .int .i64 xu, .int .i64 xc, .int .i64 xf] 52)).heap.size = wr.heap.size + 1 by simp] at this : ((wr.alloc (.cells #[.int .i64 xt, .int .i64 xk, .int .i64 xp, .int .i64 xr, .int .i64 xu, .int .i64 xc, .int .i64 xf] 52)).alloc o).heap[wr.heap.size + 1]? = some o))
          clear ht hkm
          generalize a.e.take (min k m) = L at *
          go_wp2_with (at_builtin; refine wpList_append_own _ rfl (.tmp 41) (.tmp 43) 23 rfl C 52 j0 (.agg #[.int .i64 0, .int .i64 0, .int .i64 0, .int .i64 0, .int .i64 0, .int .i64 0, .int .i64 0]) 7 56 Try.underlying23 HJ.out HJ0.out HJ1.out HJ2.out rfl (by decide) _ L.length (av L) rfl (OX.out.alloc _) ⟨wr.heap.size + 1, 0, none⟩ 1 1 [.int .i64 xt, .int .i64 xk, .int .i64 xp, .int .i64 xr, .int .i64 xu, .int .i64 xc, .int .i64 xf] rfl rfl (World.news_of_block (HNW.out _)) (by simp [Value.oneCell']) (by unfold maxLen; omega) (by omega) (by simp; omega) ?_; intro v' w12 hown hgr _; obtain ⟨A2, c2, rfl⟩ := own_form hown; have Q12 := Lib.hid (crel_q CX.out OX.out hgr); have HADD := Lib.hid (crel_add (x := ⟨xt, xk, xp, xr, xu, xc, xf⟩) CX.out OX.out hgr hown); have B12 := Lib.hid ((HBX.out.trans ((box_below _ _).mono (by simp; omega))).grown hgr (by simp; omega) (fun g e => (OX.out.lt g e).1)); have Z12 := Lib.hid (Nat.le_trans HZX.out (Nat.le_trans (by simp) hgr.size)); clear hown hgr; obtain ⟨r0, r1⟩ := geCells Q12.out; have r2 : w12.frozen? ⟨C, 1, none⟩ = false := frozen_of_row _ _ _ _ _ Q12.out)
          rw [setCell_eq_setRow w12 C 1 _ _ _ _ Q12.out]
          exact ⟨⟨k + 1, by omega, by go_num, by rw [HTK.out]; exact HADD.out, below_setRow B12.out (Nat.le_refl _) _, by rw [setRow_size]; exact Z12.out⟩, by simp [intOf]; omega⟩
        · have d1 : decide (xt ≤ (t : Int)) = false := decide_eq_false ht
          have HTK := Lib.hid (show a.e.take (min (k + 1) m) = a.e.take (min k m) by rw [show min (k + 1) m = min k m by have := HMK.out; omega])
          clear ht
          go_wp2_with fail
          exact ⟨⟨k + 1, by omega, by go_num, by rw [HTK.out]; exact ⟨A', c', CX.out, OX.out⟩, HBX.out, HZX.out⟩, by simp [intOf]; omega⟩
      · obtain rfl : k = a.e.length := by omega
        have HTK := Lib.hid (show a.e.take (min a.e.length m) = a.e.take m by rw [Nat.min_eq_right hm1])
        have hc7 := HC.out
        have ho7 := HO.out
        rw [HTK.out] at hc7 ho7 v1
        have HC1 := Lib.hid (fun c : Int => wB_cut hm1 HM.out c)
        have HC2 := Lib.hid (fun c : Int => wB_cut_later hm1 HM.out (show (t : Int) ≤ (t : Int) + 9 by omega) c)
        have hok2 : Eok ⟨a.n, a.e.take m⟩ := HME.out.ok.take m
        have HOK2 := Lib.hid hok2
        have HOK1 := Lib.hid HME.out.ok
        clear v0 v1 q1 hok2 HC HO
        generalize a.e.take m = L at *
        have HEA := Lib.hid (HEF.out _ HBL.out)
        have HEC := Lib.hid (show EL wr 0 ⟨a.n, L⟩ ⟨A', c'⟩ from Row.base (B' := 0) (row_of_own ho7) (Nat.zero_le _))
        have HQA := Lib.hid (HQF.out _ HBL.out)
        have HQC := Lib.hid hc7
        have HBW := Lib.hid (HBF.out _ HBL.out)
        clear hc7 ho7
        generalize wr = W7 at *
        obtain ⟨n, hn⟩ : ∃ n : Nat, a.n = (n : Int) := ⟨a.n.toNat, by omega⟩
        have hn6 : n ≤ 16 := by omega
        have HAN := Lib.hid hn
        have hm15 := HME.out.m15
        clear hn
        go_wp2_with fail
        go_loopw [9] (fun ci wv => ∃ c : Nat, c ≤ 5 ∧ ci = .int .i64 (c : Int) ∧ Below W7.heap.size W7 wv) (fun ci _ => (5 - (intOf ci).toNat))
        case atStart => exact ⟨0, by omega, rfl, Below.refl _ _⟩
        case round =>
          obtain ⟨c, hc, rfl, hbl⟩ := hrel
          rename World => wv
          have HBV := Lib.hid hbl
          have hgq : ∀ w', Below wv.heap.size wv w' → (w'.cell? ⟨Q, 0, none⟩ = some (.int .i64 a.n) ∧ w'.cell? ⟨Q, 1, none⟩ = some (.slice A a.e.length vc) ∧ w'.cell? ⟨C, 0, none⟩ = some (.int .i64 a.n) ∧ w'.cell? ⟨C, 1, none⟩ = some (.slice A' L.length c') ∧ Below wv.heap.size wv w') := fun w' hw =>
            have hww := hbl.trans (hw.mono hbl.size)
            ⟨(geCells ((hww.block _ (row_lt HQA.out)).trans HQA.out)).1, (geCells ((hww.block _ (row_lt HQA.out)).trans HQA.out)).2, (geCells ((hww.block _ (row_lt HQC.out)).trans HQC.out)).1, (geCells ((hww.block _ (row_lt HQC.out)).trans HQC.out)).2, hw⟩
          have HKP := Lib.hid hgq
          obtain ⟨q0, q1, q2, q3, -⟩ := hgq wv (Below.refl _ _)
          by_cases hlc : c < 5
          · have d9 : decide ((c : Int) < 5) = true := decide_eq_true (by omega)
            have HST := Lib.hid (fun w' (hw : Below wv.heap.size wv w') => (by
              have h := stays_any a ⟨A, vc⟩ (c : Int) n w' (Row.below HEA.out (hbl.trans (hw.mono hbl.size))) HOK1.out HAN.out (by omega)
              unfold StPost at h
              exact h : Calls Try.prog 38 #[.agg (ge a ⟨A, vc⟩), .int .i64 (c : Int)] w' fun e w2 => ∃ A cc, e = .returned (.slice A (stL a c n).length cc) ∧ w2.ownsRow w'.heap.size 66 3 (.slice A (stL a c n).length cc) (stL a c n).length (sv (stL a c n)) ∧ Below w'.heap.size w' w2))
            have hwa := fun w' (hw : Below wv.heap.size wv w') => where_any a ⟨A, vc⟩ (c : Int) (t : Int) n w' (Row.below HEA.out (hbl.trans (hw.mono hbl.size))) HOK1.out HAN.out (by omega)
            have hwc := fun w' (hw : Below wv.heap.size wv w') => where_any ⟨a.n, L⟩ ⟨A', c'⟩ (c : Int) (t : Int) n w' (Row.below HEC.out (hbl.trans (hw.mono hbl.size))) HOK2.out HAN.out (by omega)
            have hwd := fun w' (hw : Below wv.heap.size wv w') => where_any ⟨a.n, L⟩ ⟨A', c'⟩ (c : Int) ((t : Int) + 9) n w' (Row.below HEC.out (hbl.trans (hw.mono hbl.size))) HOK2.out HAN.out (by omega)
            rw [HC2.out (c : Int), HC1.out (c : Int)] at hwd
            rw [HC1.out (c : Int)] at hwc
            have HNV := Lib.hid (fun h => (⟨wB_never h (t : Int), stL_never h n⟩ : (∀ p, wB a (c : Int) (t : Int) p = false) ∧ stL a (c : Int) n = []))
            simp only [ge] at hwa hwc hwd
            unfold SmPost at hwa hwc hwd
            have HSF := Lib.hid (show (#[.int .i64 a.n, .slice A a.e.length vc] : Array Value) = ge a ⟨A, vc⟩ from rfl)
            have hnm := cnt_le (wB a (c : Int) (t : Int)) n
            have HCN := Lib.hid (fun h => (idx_none h n).2 : (∀ r, wB a (c : Int) (t : Int) r = false) → cnt (wB a (c : Int) (t : Int)) n = 0)
            generalize wB a (c : Int) (t : Int) = q at *
            generalize idx q n = LM at *
            generalize cnt q n = nm at *
            have HWA := Lib.hid hwa
            have HWC := Lib.hid hwc
            have HWC2 := Lib.hid hwc
            have HWD := Lib.hid hwd
            have hw9 : IntKind.i64.wrap ((t : Int) + 9) = (t : Int) + 9 := IntWalk.i64_in _ (by omega)
            clear hwa hwc hwd hgq hbl
            go_wp2_with fail
            go_loopw [10, 54] (fun pv ii wr => ∃ k : Nat, k ≤ a.e.length ∧ pv = .bool (anyB (fun j => (ag a.e j).k == 5 && (ag a.e j).c == (c : Int)) k) ∧ ii = .int .i64 (k : Int) ∧ Below wv.heap.size wv wr) (fun _ ii _ => a.e.length - (intOf ii).toNat)
            case atStart => exact ⟨0, by omega, rfl, rfl, Below.refl _ _⟩
            case round =>
              obtain ⟨k, hk, rfl, rfl, hbl⟩ := hrel
              rename World => wz
              have HBZ := Lib.hid hbl
              by_cases hlt : k < a.e.length
              · obtain ⟨b, off, hA, -, hbk, hac⟩ := (Row.below HEA.out (HBV.out.trans (hbl.mono HBV.out.size))).ac hlt
                have hA : A = some ⟨b, off, none⟩ := hA
                subst hA
                obtain ⟨y0, y1, y2, y3, y4, y5, y6⟩ := hac
                have HAS := Lib.hid (show anyB (fun j => (ag a.e j).k == 5 && (ag a.e j).c == (c : Int)) (k + 1) = (anyB (fun j => (ag a.e j).k == 5 && (ag a.e j).c == (c : Int)) k || ((ag a.e k).k == 5 && (ag a.e k).c == (c : Int))) from rfl)
                generalize anyB (fun j => (ag a.e j).k == 5 && (ag a.e j).c == (c : Int)) k = bo at *
                generalize ag a.e k = x at *
                obtain ⟨xt, xk, xp, xr, xu, xc, xf⟩ := x
                simp only at y0 y1 y2 y3 y4 y5 y6
                have hbx := box_below wz (.cells #[.int .i64 xt, .int .i64 xk, .int .i64 xp, .int .i64 xr, .int .i64 xu, .int .i64 xc, .int .i64 xf] 52)
                have HBX := Lib.hid (hbl.trans (hbx.mono hbl.size))
                have XN := Lib.hid (heap_alloc_new wz (.cells #[.int .i64 xt, .int .i64 xk, .int .i64 xp, .int .i64 xr, .int .i64 xu, .int .i64 xc, .int .i64 xf] 52))
                obtain ⟨n0, n1, n2, n3, n4, n5, n6⟩ := accCells (x := ⟨xt, xk, xp, xr, xu, xc, xf⟩) XN.out
                simp only at n0 n1 n2 n3 n4 n5 n6
                have j0' : (0 : Int) ≤ (k : Int) := by omega
                have j1' : (k : Int) < (a.e.length : Int) := by omega
                clear hbx hbl
                cases bo with
                | true =>
                  go_wp2_with fail
                  exact ⟨⟨k + 1, by omega, by rw [HAS.out]; rfl, by go_num, HBX.out⟩, by simp [intOf]; omega⟩
                | false =>
                  by_cases h5 : xk = 5
                  · have e5 : (xk == 5) = true := by rw [h5]; rfl
                    by_cases hcc : xc = (c : Int)
                    · have e6 : (xc == (c : Int)) = true := by rw [hcc]; simp
                      have HB2 := Lib.hid (HAS.out.trans (by simp only [e5, e6]; rfl : _ = true))
                      clear h5 hcc
                      go_wp2_with fail
                      exact ⟨⟨k + 1, by omega, by rw [HB2.out], by go_num, HBX.out⟩, by simp [intOf]; omega⟩
                    · have e6 : (xc == (c : Int)) = false := beq_eq_false_iff_ne.2 hcc
                      have HB2 := Lib.hid (HAS.out.trans (by simp only [e5, e6]; rfl : _ = false))
                      clear h5 hcc
                      go_wp2_with fail
                      exact ⟨⟨k + 1, by omega, by rw [HB2.out], by go_num, HBX.out⟩, by simp [intOf]; omega⟩
                  · have e5 : (xk == 5) = false := beq_eq_false_iff_ne.2 h5
                    have HB2 := Lib.hid (HAS.out.trans (by simp only [e5]; rfl : _ = false))
                    clear h5
                    go_wp2_with fail
                    exact ⟨⟨k + 1, by omega, by rw [HB2.out], by go_num, HBX.out⟩, by simp [intOf]; omega⟩
              · obtain rfl : k = a.e.length := by omega
                have BZW := Lib.hid hbl
                have HNV2 := Lib.hid (fun (h : anyB (fun j => (ag a.e j).k == 5 && (ag a.e j).c == (c : Int)) a.e.length = false) => HNV.out (fun j hj hh => (by have := no_any h j hj; simp only [hh.1, hh.2] at this; simp at this)))
                generalize anyB (fun j => (ag a.e j).k == 5 && (ag a.e j).c == (c : Int)) a.e.length = bo at *
                clear q0 q1 q2 q3
                obtain ⟨q0, q1, q2, q3, -⟩ := HKP.out wz hbl
                clear hbl hlt
                cases bo with
                | true =>
                  clear HNV2 HNV HCN HST
                  go_wp2_with fail
                  have bz0 := BZW.out
                  have bz1 := BZW.out.drew
                  go_region_held3 (fun w' => w'.cell? ⟨Q, 0, none⟩ = some (.int .i64 a.n) ∧ w'.cell? ⟨Q, 1, none⟩ = some (.slice A a.e.length vc) ∧ w'.cell? ⟨C, 0, none⟩ = some (.int .i64 a.n) ∧ w'.cell? ⟨C, 1, none⟩ = some (.slice A' L.length c') ∧ Below wv.heap.size wv w')
                    (first | (with_reducible assumption) | (with_reducible exact HKP.out _ bz0) | (with_reducible exact HKP.out _ bz1) | (with_reducible exact HKP.out _ ba) | (with_reducible exact HKP.out _ bb) | (with_reducible exact HKP.out _ bi) | (with_reducible exact HKP.out _ be) | (with_reducible exact HKP.out _ bf) | (with_reducible exact HKP.out _ bj))
                    (first
                      | (go_at_call 35; (with_reducible refine (HWA.out _ ?_).mono ?_); (go_split_ands; with_reducible assumption); rintro e wa ⟨X1, X1c, rfl, hown, hbb⟩; go_split_ands; have ba : Below wv.heap.size wv wa := Below.trans (by with_reducible assumption) (hbb.mono (Below.size (by with_reducible assumption))); have R1 := Lib.hid ((row_of_own hown).base (Nat.zero_le _)); clear hbb hown HWA)
                      | (go_at_call 35; (with_reducible refine (HWC.out _ ?_).mono ?_); (go_split_ands; with_reducible assumption); rintro e wb ⟨X2, X2c, rfl, hown, hbb⟩; go_split_ands; have bb : Below wv.heap.size wv wb := Below.trans (by with_reducible assumption) (hbb.mono (Below.size (by with_reducible assumption))); have R2 := Lib.hid ((row_of_own hown).base (Nat.zero_le _)); have R1b := Lib.hid (R1.out.below hbb); clear R1; clear hbb hown HWC)
                      | (go_at_call 20; (refine (ints_same X1 X2 nm X1c X2c LM _ R1b.out R2.out (by omega)).mono ?_); rintro e wi ⟨rfl, hbi⟩; go_split_ands; have bi : Below wv.heap.size wv wi := Below.trans (by with_reducible assumption) (hbi.mono (Below.size (by with_reducible assumption))); clear hbi R1b)
                      | (go_at_call 35; (with_reducible refine (HWC2.out _ ?_).mono ?_); (go_split_ands; with_reducible assumption); rintro e we ⟨X3, X3c, rfl, hown, hbb⟩; go_split_ands; have be : Below wv.heap.size wv we := Below.trans (by with_reducible assumption) (hbb.mono (Below.size (by with_reducible assumption))); have R3 := Lib.hid ((row_of_own hown).base (Nat.zero_le _)); clear hbb hown HWC2)
                      | (go_at_call 35; (with_reducible refine (HWD.out _ ?_).mono ?_); (go_split_ands; with_reducible assumption); rintro e wf ⟨X4, X4c, rfl, hown, hbb⟩; go_split_ands; have bf : Below wv.heap.size wv wf := Below.trans (by with_reducible assumption) (hbb.mono (Below.size (by with_reducible assumption))); have R4 := Lib.hid ((row_of_own hown).base (Nat.zero_le _)); have R3b := Lib.hid (R3.out.below hbb); clear R3; clear hbb hown HWD)
                      | (go_at_call 20; (refine (ints_same X3 X4 nm X3c X4c LM _ R3b.out R4.out (by omega)).mono ?_); rintro e wj ⟨rfl, hbi⟩; go_split_ands; have bj : Below wv.heap.size wv wj := Below.trans (by with_reducible assumption) (hbi.mono (Below.size (by with_reducible assumption))); clear hbi R3b))
                  go_split_ands
                  have BJ := Lib.hid (HBV.out.trans (bj.mono HBV.out.size))
                  clear ba bb bi be bf bj bz0 bz1
                  go_wp2_with fail
                  exact ⟨⟨c + 1, by omega, by go_num, BJ.out⟩, by simp [intOf]; omega⟩
                | false =>
                  obtain ⟨hq0, hs0⟩ := HNV2.out rfl
                  have hst := HST.out
                  rw [hs0] at hst
                  have HST2 := Lib.hid (show ∀ w', Below wv.heap.size wv w' → Calls Try.prog 38 #[.agg (ge a ⟨A, vc⟩), .int .i64 (c : Int)] w' fun e w2 => ∃ A cc, e = .returned (.slice A 0 cc) ∧ Below w'.heap.size w' w2 from fun w' hw => (hst w' hw).mono fun e w2 ⟨A, cc, h1, _, h3⟩ => ⟨A, cc, h1, h3⟩)
                  have HN0 := Lib.hid (HCN.out hq0)
                  have dz : decide ((0 : Int) < (nm : Int)) = false := decide_eq_false (by rw [HN0.out]; decide)
                  have dz2 : ¬ 0 < nm := by rw [HN0.out]; decide
                  clear hq0 hs0 hst HNV2 HNV HCN HST
                  go_wp2_with (first
                    | (go_at_call 38; rw [HSF.out]; (refine (HST2.out _ BZW.out).mono ?_); rintro e w8 ⟨Y1, y1, rfl, hb8⟩; have B8 := Lib.hid (BZW.out.trans (hb8.mono BZW.out.size)); clear q0 q1 q2 q3; obtain ⟨q0, q1, q2, q3, -⟩ := HKP.out w8 B8.out; clear hb8)
                    | (go_at_call 35; (with_reducible refine (HWA.out _ B8.out).mono ?_); rintro e w9 ⟨Y2, y2, rfl, -, hb9⟩; have B9 := Lib.hid (B8.out.trans (hb9.mono B8.out.size)); clear q0 q1 q2 q3; obtain ⟨q0, q1, q2, q3, -⟩ := HKP.out w9 B9.out; clear hb9 BZW; have BZW := Lib.hid B9.out))
                  have bz0 := BZW.out
                  have bz1 := BZW.out.drew
                  go_region_held3 (fun w' => w'.cell? ⟨Q, 0, none⟩ = some (.int .i64 a.n) ∧ w'.cell? ⟨Q, 1, none⟩ = some (.slice A a.e.length vc) ∧ w'.cell? ⟨C, 0, none⟩ = some (.int .i64 a.n) ∧ w'.cell? ⟨C, 1, none⟩ = some (.slice A' L.length c') ∧ Below wv.heap.size wv w')
                    (first | (with_reducible assumption) | (with_reducible exact HKP.out _ bz0) | (with_reducible exact HKP.out _ bz1) | (with_reducible exact HKP.out _ ba) | (with_reducible exact HKP.out _ bb) | (with_reducible exact HKP.out _ bi) | (with_reducible exact HKP.out _ be) | (with_reducible exact HKP.out _ bf) | (with_reducible exact HKP.out _ bj))
                    (first
                      | (go_at_call 35; (with_reducible refine (HWA.out _ ?_).mono ?_); (go_split_ands; with_reducible assumption); rintro e wa ⟨X1, X1c, rfl, hown, hbb⟩; go_split_ands; have ba : Below wv.heap.size wv wa := Below.trans (by with_reducible assumption) (hbb.mono (Below.size (by with_reducible assumption))); have R1 := Lib.hid ((row_of_own hown).base (Nat.zero_le _)); clear hbb hown HWA)
                      | (go_at_call 35; (with_reducible refine (HWC.out _ ?_).mono ?_); (go_split_ands; with_reducible assumption); rintro e wb ⟨X2, X2c, rfl, hown, hbb⟩; go_split_ands; have bb : Below wv.heap.size wv wb := Below.trans (by with_reducible assumption) (hbb.mono (Below.size (by with_reducible assumption))); have R2 := Lib.hid ((row_of_own hown).base (Nat.zero_le _)); have R1b := Lib.hid (R1.out.below hbb); clear R1; clear hbb hown HWC)
                      | (go_at_call 20; (refine (ints_same X1 X2 nm X1c X2c LM _ R1b.out R2.out (by omega)).mono ?_); rintro e wi ⟨rfl, hbi⟩; go_split_ands; have bi : Below wv.heap.size wv wi := Below.trans (by with_reducible assumption) (hbi.mono (Below.size (by with_reducible assumption))); clear hbi R1b)
                      | (go_at_call 35; (with_reducible refine (HWC2.out _ ?_).mono ?_); (go_split_ands; with_reducible assumption); rintro e we ⟨X3, X3c, rfl, hown, hbb⟩; go_split_ands; have be : Below wv.heap.size wv we := Below.trans (by with_reducible assumption) (hbb.mono (Below.size (by with_reducible assumption))); have R3 := Lib.hid ((row_of_own hown).base (Nat.zero_le _)); clear hbb hown HWC2)
                      | (go_at_call 35; (with_reducible refine (HWD.out _ ?_).mono ?_); (go_split_ands; with_reducible assumption); rintro e wf ⟨X4, X4c, rfl, hown, hbb⟩; go_split_ands; have bf : Below wv.heap.size wv wf := Below.trans (by with_reducible assumption) (hbb.mono (Below.size (by with_reducible assumption))); have R4 := Lib.hid ((row_of_own hown).base (Nat.zero_le _)); have R3b := Lib.hid (R3.out.below hbb); clear R3; clear hbb hown HWD)
                      | (go_at_call 20; (refine (ints_same X3 X4 nm X3c X4c LM _ R3b.out R4.out (by omega)).mono ?_); rintro e wj ⟨rfl, hbi⟩; go_split_ands; have bj : Below wv.heap.size wv wj := Below.trans (by with_reducible assumption) (hbi.mono (Below.size (by with_reducible assumption))); clear hbi R3b))
                  go_split_ands
                  have BJ := Lib.hid (HBV.out.trans (bj.mono HBV.out.size))
                  clear ba bb bi be bf bj bz0 bz1
                  go_wp2_with fail
                  exact ⟨⟨c + 1, by omega, by go_num, BJ.out⟩, by simp [intOf]; omega⟩
          · obtain rfl : c = 5 := by omega
            have d9 : decide (((5 : Nat) : Int) < 5) = false := rfl
            clear hbl hgq
            go_wp2_with (go_at_call 32; refine (awake29_any _).mono ?_; rintro e w9 ⟨rfl, hb9⟩; have HB9 := Lib.hid (HBW.out.trans ((HBV.out.trans (hb9.mono HBV.out.size)).mono HBW.out.size)); clear hb9)
            go_ret
            exact ⟨by first | rfl | simp, HB9.out⟩

/-! ### THE ROW's STEP: WRITTEN OUT: LEAVE IT -/
set_option maxRecDepth 100000 in
theorem lifted (os : Os) (started : os.Started) (H : Type) (enc : TypeId × Value → H) :
    ReturnsInHanded {} Try.checked os 13 .any (Rows.copiesCutSpec.pre6 enc Try.prog Try.f13 Rows.copiesCutRow.domain false) (Rows.copiesCutSpec.post enc Try.prog Try.f13 false true false false) := by
  refine returnsInHanded_of_change (C := Try.checked) own started (by kernel_rfl) Try.func13
    (ChangeSpec.witness6 (enc := enc) (C := Try.checked) false ⟨#[], #[.slice none 0 0], []⟩ 8 (by kernel_rfl) (by kernel_rfl) (by kernel_rfl) (by kernel_rfl)) ?_
  intro W base args ds gs before hval0 hW hcnd _
  have hval : ∀ (j : Nat) t v, Try.f13.params[j]? = some t → args[j]? = some v → Value.okWide Try.prog W .any base t v := hval0
  have hW' := hW
  obtain ⟨p, q, hA0, hV, rfl, hfz, hnd⟩ := hW
  have hA : DataW.TrodAll enc Try.prog W 0 (fun _ => true) true Try.f13.params.toList args.toList ds p := hA0
  rw [Try.params13] at hA hval
  obtain ⟨v0, vs0, d0, ds0, p0, q0, hargs, rfl, rfl, h0, r0⟩ := trodAll_cons hA
  obtain ⟨rfl, rfl, rfl⟩ := trodAll_nil r0
  obtain rfl : args = #[v0] := by cases args; simp_all
  obtain ⟨rfl, rfl⟩ := trodVars_none hV
  obtain ⟨a0, len0, cap0, rfl⟩ := okWide_slice Try.underlying22 (hval 0 22 v0 rfl rfl)
  have k0 := h0
  have lt0 : ∀ x ∈ p0, x.block < W.heap.size := by obtain ⟨m, hm⟩ := k0; exact DataW.trod_lt m _ _ _ hm
  obtain ⟨z0, w0⟩ : ∃ zs, IsRow .i64 W a0 len0 cap0 zs := by
    obtain ⟨fuel, hf⟩ := h0
    rcases open_ints Try.underlying22 Try.underlying3 (by kernel_rfl) hf with ⟨hcs, _⟩ | ⟨x, l, c, zs, hcs, _, hl, hm, hz, _, hcell, hwz⟩
    · simp [Value.cells] at hcs
      obtain ⟨rfl, rfl, rfl⟩ := hcs
      exact ⟨[], .inl ⟨rfl, rfl, rfl, rfl⟩⟩
    · simp [Value.cells] at hcs
      obtain ⟨rfl, rfl, rfl⟩ := hcs
      exact ⟨zs, .inr ⟨_, rfl, hl, hm, by simpa using hz, hcell, hwz⟩⟩
  clear hA0 hval0
  refine (walk a0 len0 cap0 z0 W w0).mono fun e W' ⟨he, bel⟩ => ?_
  subst he
  exact ⟨_, rfl, _, _, _, [], _, [], hW', trodAll_mk1 (shut_bool Try.underlying4 _), (trodAll_cons_mk (Below.trod laidOut (by kernel_rfl) (of_decide_eq_true (by kernel_rfl)) k0 bel lt0) trodAll_mk0), rfl, bel.frame _, fun h => by cases h⟩

theorem over : Rows.copiesCutRow.holds Try.pinned (OpenSpec.ofChange Rows.copiesCutSpec) :=
  OpenClaim.holds_of_wide 13 Try.f13 rfl rfl rfl rfl rfl rfl rfl ⟨rfl, rfl, rfl, rfl, rfl⟩ rfl rfl rfl rfl rfl (by kernel_rfl) Try.func13 (by kernel_rfl)
    (of_decide_eq_true (by kernel_rfl)) (by unfold Func.isWrapper; first | (rw [if_pos (by decide +kernel)]; kernel_rfl) | (rw [if_neg (by decide +kernel)]; exact ⟨rfl, rfl⟩))
    (fun os started H enc _ => lifted os started H enc)

/-- ████ THE STATEMENT ████ -/
theorem proved : Rows.CopiesCutSaid := over
#print axioms proved
end Go.Proofs.Ytfdmneceecaocaa.copiesCut
