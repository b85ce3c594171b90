/-
  The Go function leakresponse/leakresponselaw30.ExposureCut returns true for every list of numbers, and leaves what was there as it was; no conditions. Exposures of at most a time are the same when all that happens later is left out, and a content that is never put has none.
-/
import Derived.Test.YtgknfkmojhganaaGreatExAll
import Derived.Test.YtgknfkmojhganaaGreatRows
import Derived.Test.YtgknfkmojhganaaGreatExW
import Derived.WalkKit
import Derived.ProofKit
import Derived.OpenShut
import Derived.ShutString
import Derived.ChangeOld
import Derived.Below
import Derived.StillTailTactics
import Derived.Deep.CutBlock
namespace Go.Proofs.YtgknfkmojhganaaGreat.exposureCut
open Go.ChangeShapes Go.WideShapes Go.ChangeAt Go.RowKit
open Go.ChangeMaps (open_string shut_string)
open Go.Proofs.YtgknfkmojhganaaGreat.Tp
open Go.Proofs.YtgknfkmojhganaaGreat.Di
set_option linter.unusedVariables false
set_option linter.unusedSimpArgs false

set_option maxRecDepth 100000 in
set_option maxHeartbeats 16000000 in
theorem walk (a0 : Option Addr) (len0 cap0 : Nat) (z0 : List Int) (w : World) (w0 : IsRow .i64 w a0 len0 cap0 z0) :
    Calls Tryz.prog 7 #[.slice a0 len0 cap0] w fun e w' => e = .returned (.bool true) ∧ Below w.heap.size w w' := by
  have hm := w0.at_.1
  unfold maxLen at hm
  have HTP := Lib.hid (tape_new w0)
  have HBX := Lib.hid (box_below w (.cells #[.slice a0 len0 cap0, .int .i64 0] 34))
  clear w0
  by_cases hlen : 400 < len0
  · have hl0 : (400 : Int) < (len0 : Int) := by omega
    go_enter Tryz.func7, Tryz.ntmps7
    go_wp2_with (go_at_call 26; refine (xawake_any _).mono ?_; rintro e w1 ⟨rfl, hb1⟩; have HB1 := Lib.hid hb1; clear hb1)
    go_ret
    exact ⟨rfl, HB1.out⟩
  · have hl0 : (len0 : Int) ≤ (400 : Int) := by omega
    go_enter Tryz.func7, Tryz.ntmps7
    go_wp2_with fail
    refine (directory_any w.heap.size _ HTP.out (by simp)).mono ?_
    rintro e w1 ⟨d, ⟨D1, dc1, D2, dc2⟩, rfl, hmk, hrl, hg1, ht1⟩
    have hb1 : Below w.heap.size w w1 := HBX.out.grown hg1 HBX.out.size (fun k e => by cases e; exact Nat.le_refl _)
    have hs1 := hg1.size
    simp at hs1
    have HQ := Lib.hid (heap_alloc_new w1 (.cells (gd d ⟨D1, dc1, D2, dc2⟩) 25))
    have HDL := Lib.hid ((hrl.base (show w.heap.size + 1 ≤ _ by simp)).below (box_below w1 (.cells (gd d ⟨D1, dc1, D2, dc2⟩) 25)))
    have HB1 := Lib.hid (hb1.trans ((box_below w1 (.cells (gd d ⟨D1, dc1, D2, dc2⟩) 25)).mono hb1.size))
    have HT1 := Lib.hid (tape_new2 ht1 (.cells (gd d ⟨D1, dc1, D2, dc2⟩) 25))
    have HMK := Lib.hid hmk
    have hn1 := hmk.n1
    have hn7 := hmk.n7
    have he11 := hmk.e11
    have lT1 : w.heap.size < w1.heap.size := by omega
    clear hrl hg1 ht1 hb1 hmk
    obtain ⟨g0, g1⟩ := gdCells HQ.out
    have HFD := Lib.hid (show (#[.slice D1 d.k.length dc1, .slice D2 d.e.length dc2] : Array Value) = gd d ⟨D1, dc1, D2, dc2⟩ from rfl)
    go_wp2_with (with_reducible (show wpList _ _ _ (⟨none, .store 25 (.tmp 4) (.tmp 30), _, _, _, _⟩ :: _) _ _); refine wpList_store_row (o := ⟨none, .store 25 (.tmp 4) (.tmp 30), _, _, _, _⟩) rfl 25 (.tmp 4) (.tmp 30) rfl w1.heap.size (gd d ⟨D1, dc1, D2, dc2⟩) rfl rfl 25 zD (heap_alloc_new _ _) (info25 _ _) rfl (gd_one _ _) ?_; rw [new_set])
    have lQ : w1.heap.size < (w1.alloc (.cells (gd d ⟨D1, dc1, D2, dc2⟩) 25)).heap.size := row_lt HQ.out
    generalize w1.alloc (.cells (gd d ⟨D1, dc1, D2, dc2⟩) 25) = WA at *
    generalize w1.heap.size = Q at *
    rw [HFD.out]
    refine (estate_any w.heap.size d ⟨D1, dc1, D2, dc2⟩ WA HT1.out (by omega) hn1 hn7).mono ?_
    rintro e w2 ⟨a, ⟨A, vc⟩, rfl, hme, hel, hg2, ht2⟩
    have hb2 : Below w.heap.size w w2 := HB1.out.grown hg2 HB1.out.size (fun k e => by cases e; exact Nat.le_refl _)
    have hs2 : w.heap.size + 1 ≤ w2.heap.size := by have := hg2.size; omega
    have hq2 := (hg2.block _ lQ (fun e => by injection e; omega)).trans HQ.out
    have hbe := box_below w2 (.cells (ge a ⟨A, vc⟩) 28)
    have HQ2 := Lib.hid ((hbe.block _ (row_lt hq2)).trans hq2)
    have HD2 := Lib.hid ((HDL.out.grown hg2 (fun g e => by cases e; omega)).below hbe)
    have HR := Lib.hid (heap_alloc_new w2 (.cells (ge a ⟨A, vc⟩) 28))
    have HEL := Lib.hid (Row.below (hel.base (show w.heap.size + 1 ≤ _ by omega)) hbe)
    have HB2 := Lib.hid (hb2.trans (hbe.mono hb2.size))
    have HT2 := Lib.hid (tape_new2 ht2 (.cells (ge a ⟨A, vc⟩) 28))
    have HME := Lib.hid hme
    have ha1 := hme.ok.n1
    have ha4 := hme.n4
    have ha15 := hme.m15
    have hRs : Q < w2.heap.size := row_lt hq2
    clear hel hg2 ht2 hb2 hme HB1 HT1 HBX HTP hbe hq2 HQ HDL g0 g1
    obtain ⟨g0, g1⟩ := gdCells HQ2.out
    obtain ⟨c0, c1⟩ := geCells HR.out
    have HFE := Lib.hid (show (#[.int .i64 a.n, .slice A a.e.length vc] : Array Value) = ge a ⟨A, vc⟩ from rfl)
    go_wp2_with (with_reducible (show wpList _ _ _ (⟨none, .store 28 (.tmp 5) (.tmp 33), _, _, _, _⟩ :: _) _ _); refine wpList_store_row (o := ⟨none, .store 28 (.tmp 5) (.tmp 33), _, _, _, _⟩) rfl 28 (.tmp 5) (.tmp 33) rfl w2.heap.size (ge a ⟨A, vc⟩) rfl rfl 28 zE (heap_alloc_new _ _) (infoEs _ _) rfl (ge_one _ _) ?_; rw [new_set])
    have lR : w2.heap.size < (w2.alloc (.cells (ge a ⟨A, vc⟩) 28)).heap.size := row_lt HR.out
    generalize w2.alloc (.cells (ge a ⟨A, vc⟩) 28) = WB at *
    generalize w2.heap.size = R at *
    have lQB : Q < WB.heap.size := row_lt HQ2.out
    have HDO := Lib.hid HMK.out.ok
    have HEO := Lib.hid HME.out.ok
    refine (next_any w.heap.size 32 _ HT2.out (by omega) (by omega)).mono ?_
    rintro e w30 ⟨zt, zt0, zt1, rfl, hg30, ht30⟩
    obtain ⟨t, rfl⟩ : ∃ k : Nat, zt = k := ⟨zt.toNat, by omega⟩
    go_wp2_with fail
    refine (next_any w.heap.size 4 _ ht30 (by omega) (by omega)).mono ?_
    rintro e w3 ⟨zc, zc0, zc1, rfl, hg31, ht3⟩
    obtain ⟨c, rfl⟩ : ∃ k : Nat, zc = k := ⟨zc.toNat, by omega⟩
    have hg3 := gb_trans hg30 hg31
    clear hg30 hg31 ht30
    have hqd := (hg3.block _ lQB (fun e => by injection e; omega)).trans HQ2.out
    have hqe := (hg3.block _ lR (fun e => by injection e; omega)).trans HR.out
    have hdd := HD2.out.grown hg3 (fun g e => by cases e; omega)
    have hee := Row.grown HEL.out hg3 (fun g e => by cases e; omega)
    have hbb := HB2.out.grown hg3 HB2.out.size (fun k e => by cases e; exact Nat.le_refl _)
    have HQD := Lib.hid (fun wr (h : Below w3.heap.size w3 wr) => (h.block _ (row_lt hqd)).trans hqd)
    have HQE := Lib.hid (fun wr (h : Below w3.heap.size w3 wr) => (h.block _ (row_lt hqe)).trans hqe)
    have HDF := Lib.hid (fun wr (h : Below w3.heap.size w3 wr) => (hdd.below h).base (Nat.zero_le _))
    have HEF := Lib.hid (fun wr (h : Below w3.heap.size w3 wr) => Row.base (B' := 0) (Row.below hee h) (Nat.zero_le _))
    have HBF := Lib.hid (fun wr (h : Below w3.heap.size w3 wr) => hbb.trans (h.mono hbb.size))
    have lQ3 : Q < w3.heap.size := row_lt hqd
    have lR3 : R < w3.heap.size := row_lt hqe
    clear g0 g1 c0 c1 hqe hdd hee hbb hg3 ht3 HQ2 HR HD2 HEL HB2 HT2
    obtain ⟨m1, hm1, hm1b⟩ := HDO.out.hapD t
    have HM1 := Lib.hid hm1b
    obtain ⟨m2, hm2, hm2b⟩ := HEO.out.hap (t : Int)
    have HM2 := Lib.hid hm2b
    obtain ⟨n, hn⟩ : ∃ n : Nat, a.n = (n : Int) := ⟨a.n.toNat, by omega⟩
    have HAN := Lib.hid hn
    have HXL := Lib.hid (show ∀ k, exL ⟨d.k, d.e.take m1⟩ ⟨a.n, a.e.take m2⟩ n (c : Int) k = (exL d a n (c : Int) k).filter (fun x => decide (x.2 ≤ t)) from exL_cut HEO.out hn ⟨hm1, hm2, hm1b, hm2b⟩)
    have HNP := Lib.hid (fun h => exL_noput (d := d) (a := a) (n := n) (c := (c : Int)) h (d.k.length + 1))
    clear hn
    clear hm1b hm2b
    obtain ⟨g0, g1⟩ := gdCells hqd
    clear hqd
    have hbc := box_below w3 (.cells #[.slice D1 d.k.length dc1, .slice none 0 0] 25)
    have HC4 := Lib.hid (show (w3.alloc (.cells #[.slice D1 d.k.length dc1, .slice none 0 0] 25)).heap[w3.heap.size]? = some (.cells (gd ⟨d.k, []⟩ ⟨D1, dc1, none, 0⟩) 25 (0, 0)) from heap_alloc_new w3 _)
    have lC := row_lt HC4.out
    have z0 := fun o => (World.cell?_alloc_lt w3 o _ lQ3).trans g0
    have z1 := fun o => (World.cell?_alloc_lt w3 o _ lQ3).trans g1
    have HB34 := Lib.hid hbc
    clear hbc
    go_wp2_with fail
    clear z0 z1 g0 g1
    generalize w3.alloc (.cells #[.slice D1 d.k.length dc1, .slice none 0 0] 25) = W4 at *
    generalize w3.heap.size = C at *
    obtain ⟨j0, hj1, hy0, hy1, hy2⟩ := info_parts zinfo62
    have HJ := Lib.hid hj1
    have HJ0 := Lib.hid hy0
    have HJ1 := Lib.hid hy1
    have HJ2 := Lib.hid hy2
    clear hj1 hy0 hy1 hy2
    go_loopw [44] (fun ii wr => ∃ k : Nat, k ≤ d.e.length ∧ ii = .int .i64 (k : Int) ∧ DRel C C d ⟨D1, dc1, D2, dc2⟩ (d.e.take (min k m1)) wr ∧ Below C w3 wr ∧ W4.heap.size ≤ wr.heap.size) (fun ii _ => d.e.length - (intOf ii).toNat)
    case atStart => exact ⟨0, by omega, rfl, ⟨none, 0, by rw [Nat.zero_min]; exact HC4.out, by rw [Nat.zero_min]; exact own_nil _ _ _ _⟩, HB34.out, Nat.le_refl _⟩
    case round =>
      obtain ⟨k, hk, rfl, ⟨A', c', hc, ho⟩, hbl, hsz⟩ := hrel
      have HC := Lib.hid hc
      have HO := Lib.hid ho
      have HBL := Lib.hid hbl
      obtain ⟨v0, v1⟩ := gdCells hc
      have q1 : wr.frozen? ⟨C, 1, none⟩ = false := frozen_of_row _ _ _ _ _ hc
      clear hc ho hbl HC4
      by_cases hlt : k < d.e.length
      · obtain ⟨b, off, hA, -, hbk, y0, y1, y2, y3⟩ := (HDF.out _ HBL.out).r2.evt hlt
        have hA : D2 = some ⟨b, off, none⟩ := hA
        subst hA
        rw [show d.e.getD k m0 = eg d k from rfl] at y0 y1 y2 y3
        have HTS := Lib.hid (take_snocD d hlt)
        have HMX := Lib.hid (HM1.out k hlt)
        have hcw : C < wr.heap.size := row_lt HC.out
        generalize eg d k = x at *
        obtain ⟨xt, xk, xp, xg⟩ := x
        simp only at y0 y1 y2 y3
        have hmk := HMX.out
        simp only at hmk
        have hbx := box_below wr (.cells #[.int .i64 (xt : Int), .int .i64 (xk : Int), .int .i64 (xp : Int), .int .i64 (xg : Int)] 79)
        have HBX := Lib.hid (HBL.out.trans (hbx.mono (Nat.le_of_lt hcw)))
        have XN := Lib.hid (heap_alloc_new wr (.cells #[.int .i64 (xt : Int), .int .i64 (xk : Int), .int .i64 (xp : Int), .int .i64 (xg : Int)] 79))
        have CX := Lib.hid ((hbx.block _ hcw).trans HC.out)
        have OX := Lib.hid (own_below HO.out hbx)
        have n0 : (wr.alloc (.cells #[.int .i64 (xt : Int), .int .i64 (xk : Int), .int .i64 (xp : Int), .int .i64 (xg : Int)] 79)).cell? ⟨wr.heap.size, 0, none⟩ = some (.int .i64 (xt : Int)) := by rw [cell_of_row _ _ _ _ _ _ XN.out]; rfl
        have n1 : (wr.alloc (.cells #[.int .i64 (xt : Int), .int .i64 (xk : Int), .int .i64 (xp : Int), .int .i64 (xg : Int)] 79)).cell? ⟨wr.heap.size, 1, none⟩ = some (.int .i64 (xk : Int)) := by rw [cell_of_row _ _ _ _ _ _ XN.out]; rfl
        have n2 : (wr.alloc (.cells #[.int .i64 (xt : Int), .int .i64 (xk : Int), .int .i64 (xp : Int), .int .i64 (xg : Int)] 79)).cell? ⟨wr.heap.size, 2, none⟩ = some (.int .i64 (xp : Int)) := by rw [cell_of_row _ _ _ _ _ _ XN.out]; rfl
        have n3 : (wr.alloc (.cells #[.int .i64 (xt : Int), .int .i64 (xk : Int), .int .i64 (xp : Int), .int .i64 (xg : Int)] 79)).cell? ⟨wr.heap.size, 3, none⟩ = some (.int .i64 (xg : Int)) := by rw [cell_of_row _ _ _ _ _ _ XN.out]; rfl
        have j0' : (0 : Int) ≤ (k : Int) := by omega
        have j1' : (k : Int) < (d.e.length : Int) := by omega
        have hzx : W4.heap.size ≤ (wr.alloc (.cells #[.int .i64 (xt : Int), .int .i64 (xk : Int), .int .i64 (xp : Int), .int .i64 (xg : Int)] 79)).heap.size := by simp; omega
        have HZX := Lib.hid hzx
        have hll : (d.e.take (min k m1)).length ≤ 11 := by rw [List.length_take]; omega
        clear hbx hzx
        by_cases ht : xt ≤ t
        · have d1 : decide ((xt : Int) ≤ (t : Int)) = true := decide_eq_true (by omega)
          have hkm : k < m1 := hmk.1 ht
          have HTK := Lib.hid (show d.e.take (min (k + 1) m1) = d.e.take (min k m1) ++ [⟨xt, xk, xp, xg⟩] by rw [Nat.min_eq_left (by omega), Nat.min_eq_left (by omega)]; exact HTS.out)
          have HNW := Lib.hid (fun o => (by have := heap_alloc_new (wr.alloc (.cells #[.int .i64 (xt : Int), .int .i64 (xk : Int), .int .i64 (xp : Int), .int .i64 (xg : Int)] 79)) o; rwa [show (wr.alloc (.cells #[.int .i64 (xt : Int), .int .i64 (xk : Int), .int .i64 (xp : Int), .int .i64 (xg : Int)] 79)).heap.size = wr.heap.size + 1 by simp] at this : ((wr.alloc (.cells #[.int .i64 (xt : Int), .int .i64 (xk : Int), .int .i64 (xp : Int), .int .i64 (xg : Int)] 79)).alloc o).heap[wr.heap.size + 1]? = some o))
          clear hkm hmk
          generalize d.e.take (min k m1) = L at *
          go_wp2_with (at_builtin; refine wpList_append_own _ rfl (.tmp 53) (.tmp 55) 23 rfl C 79 j0 (.agg #[.int .i64 0, .int .i64 0, .int .i64 0, .int .i64 0]) 4 32 Tryz.underlying23 HJ.out HJ0.out HJ1.out HJ2.out rfl (by decide) _ L.length (ev L) rfl (OX.out.alloc _) ⟨wr.heap.size + 1, 0, none⟩ 1 1 [.int .i64 (xt : Int), .int .i64 (xk : Int), .int .i64 (xp : Int), .int .i64 (xg : Int)] rfl rfl (World.news_of_block (HNW.out _)) (by simp [Value.oneCell']) (by unfold maxLen; omega) (by omega) (by simp; omega) ?_; intro v' w12 hown hgr _; obtain ⟨A2, c2, rfl⟩ := own_form hown; have Q12 := Lib.hid (drel_q (v := ⟨D1, dc1, some ⟨b, off, none⟩, dc2⟩) CX.out OX.out hgr); have hadd := drel_add (v := ⟨D1, dc1, some ⟨b, off, none⟩, dc2⟩) (x := ⟨xt, xk, xp, xg⟩) CX.out OX.out hgr hown; have HADD := Lib.hid hadd.1; have B12 := (HBX.out.trans ((box_below _ _).mono (by simp; omega))).grown hgr (by simp; omega) (fun g e => (OX.out.lt g e).1); have Z12 := Nat.le_trans HZX.out (Nat.le_trans (by simp) hgr.size); have BX12 := Lib.hid (show Below C w3 (w12.setCell ⟨C, 1, none⟩ (.slice A2 (L.length + 1) c2)) ∧ W4.heap.size ≤ (w12.setCell ⟨C, 1, none⟩ (.slice A2 (L.length + 1) c2)).heap.size from (by rw [hadd.2]; exact ⟨below_setRow B12 (Nat.le_refl _) _, by rw [setRow_size]; exact Z12⟩)); clear hown hgr hadd B12 Z12; obtain ⟨r0, r1⟩ := gdCells Q12.out; have r2 : w12.frozen? ⟨C, 1, none⟩ = false := frozen_of_row _ _ _ _ _ Q12.out)
          exact ⟨⟨k + 1, by omega, by go_num, by rw [HTK.out]; exact HADD.out, BX12.out.1, BX12.out.2⟩, by simp [intOf]; omega⟩
        · have d1 : decide ((xt : Int) ≤ (t : Int)) = false := decide_eq_false (by omega)
          have HTK := Lib.hid (show d.e.take (min (k + 1) m1) = d.e.take (min k m1) by rw [show min (k + 1) m1 = min k m1 by have : ¬ k < m1 := fun h => ht (hmk.2 h); omega])
          clear hmk
          go_wp2_with fail
          exact ⟨⟨k + 1, by omega, by go_num, by rw [HTK.out]; exact ⟨A', c', CX.out, OX.out⟩, HBX.out, HZX.out⟩, by simp [intOf]; omega⟩
      · obtain rfl : k = d.e.length := by omega
        have HTK := Lib.hid (show d.e.take (min d.e.length m1) = d.e.take m1 by rw [Nat.min_eq_right hm1])
        have hc7 := HC.out
        have ho7 := HO.out
        rw [HTK.out] at hc7 ho7
        obtain ⟨A0, hA0⟩ : ∃ A0, A' = A0 := ⟨_, rfl⟩
        obtain ⟨c0, hc0⟩ : ∃ c0, c' = c0 := ⟨_, rfl⟩
        rw [hA0, hc0] at hc7 ho7
        have HDC := Lib.hid (show wr.heap[C]? = some (.cells (gd ⟨d.k, d.e.take m1⟩ ⟨D1, dc1, A0, c0⟩) 25 (0, 0)) from hc7)
        have HDR := Lib.hid (show DL wr 0 ⟨d.k, d.e.take m1⟩ ⟨D1, dc1, A0, c0⟩ from ⟨(HDF.out _ HBL.out).r1, (row_of_own ho7).base (Nat.zero_le _)⟩)
        have HDO2 := Lib.hid (show Ok ⟨d.k, d.e.take m1⟩ from HDO.out.cut m1)
        generalize d.e.take m1 = Ld at *
        clear hc7 ho7 v0 v1 q1 HC HO
        obtain ⟨g0, g1⟩ := geCells (HQE.out _ HBL.out)
        rename World => wk
        have lC2 : C < wk.heap.size := row_lt HDC.out
        have HBLK := Lib.hid HBL.out
        have HE3 := Lib.hid (HEF.out _ HBL.out)
        have HQ3 := Lib.hid (HQE.out _ HBL.out)
        have HB3 := Lib.hid (HBF.out _ HBL.out)
        clear HM1 HB34 lC
        have hbc := box_below wk (.cells #[.int .i64 a.n, .slice none 0 0] 28)
        have HC6 := Lib.hid (show (wk.alloc (.cells #[.int .i64 a.n, .slice none 0 0] 28)).heap[wk.heap.size]? = some (.cells (ge ⟨a.n, []⟩ ⟨none, 0⟩) 28 (0, 0)) from heap_alloc_new wk _)
        have lG := row_lt HC6.out
        have lQ3 : R < wk.heap.size := row_lt HQ3.out
        have z0 := fun o => (World.cell?_alloc_lt wk o _ lQ3).trans g0
        have z1 := fun o => (World.cell?_alloc_lt wk o _ lQ3).trans g1
        have HEK := Lib.hid (fun wr (h : Below wk.heap.size wk wr) => Row.base (B' := 0) (Row.below HE3.out h) (Nat.zero_le _))
        have HQK := Lib.hid (fun wr (h : Below wk.heap.size wk wr) => (h.block _ lQ3).trans HQ3.out)
        have HBK := Lib.hid (fun wr (h : Below wk.heap.size wk wr) => HB3.out.trans (h.mono HB3.out.size))
        have HB36 := Lib.hid hbc
        clear hbc
        go_wp2_with fail
        clear z0 z1 g0 g1
        generalize wk.alloc (.cells #[.int .i64 a.n, .slice none 0 0] 28) = W6 at *
        generalize hG2 : wk.heap.size = G2 at *
        obtain ⟨j0, hj1, hy0, hy1, hy2⟩ := info_parts zinfoAc
        have HJ := Lib.hid hj1
        have HJ0 := Lib.hid hy0
        have HJ1 := Lib.hid hy1
        have HJ2 := Lib.hid hy2
        clear hj1 hy0 hy1 hy2 HQ3 HE3 HB3
        go_loopw [12, 65] (fun pv ii wr => ∃ k : Nat, k ≤ a.e.length ∧ pv = .bool (putB a (c : Int) k) ∧ ii = .int .i64 (k : Int) ∧ CRel G2 G2 a.n (a.e.take (min k m2)) wr ∧ Below G2 wk wr ∧ W6.heap.size ≤ wr.heap.size) (fun _ ii _ => a.e.length - (intOf ii).toNat)
        case atStart => exact ⟨0, by omega, rfl, rfl, ⟨none, 0, by rw [Nat.zero_min]; exact HC6.out, by rw [Nat.zero_min]; exact own_nil _ _ _ _⟩, HB36.out, Nat.le_refl _⟩
        case round =>
          obtain ⟨k, hk, rfl, rfl, ⟨A', c', hc, ho⟩, hbl, hsz⟩ := hrel
          have HC := Lib.hid hc
          have HO := Lib.hid ho
          have HBL := Lib.hid hbl
          obtain ⟨v0, v1⟩ := geCells hc
          have q1 : wr.frozen? ⟨G2, 1, none⟩ = false := frozen_of_row _ _ _ _ _ hc
          clear hc ho hbl HC6
          by_cases hlt : k < a.e.length
          · obtain ⟨b, off, hA, -, hbk, hac⟩ := (HEK.out _ HBL.out).ac hlt
            have hA : A = some ⟨b, off, none⟩ := hA
            subst hA
            obtain ⟨y0, y1, y2, y3, y4, y5, y6⟩ := hac
            have HTS := Lib.hid (take_snocA a.e hlt)
            have HMK := Lib.hid (HM2.out k hlt)
            have hpk : putB a (c : Int) (k + 1) = (putB a (c : Int) k || (((ag a.e k).k == 5) && ((ag a.e k).c == (c : Int)))) := rfl
            generalize putB a (c : Int) k = pk at *
            have hcw : G2 < wr.heap.size := row_lt HC.out
            generalize ag a.e k = x at *
            obtain ⟨xt, xk, xp, xr, xu, xc, xf⟩ := x
            simp only at y0 y1 y2 y3 y4 y5 y6
            have hmk := HMK.out
            simp only at hmk
            have HMK := Lib.hid hmk
            obtain ⟨q5, h5⟩ : ∃ q5, (xk == 5) = q5 := ⟨_, rfl⟩
            obtain ⟨qc, hqc⟩ : ∃ qc, (xc == (c : Int)) = qc := ⟨_, rfl⟩
            replace hpk : putB a (c : Int) (k + 1) = (pk || (q5 && qc)) := by rw [hpk, ← h5, ← hqc]
            have HPK := Lib.hid hpk
            clear hpk
            have hbx := box_below wr (.cells #[.int .i64 xt, .int .i64 xk, .int .i64 xp, .int .i64 xr, .int .i64 xu, .int .i64 xc, .int .i64 xf] 76)
            have HBX := Lib.hid (HBL.out.trans (hbx.mono (Nat.le_of_lt hcw)))
            have XN := Lib.hid (heap_alloc_new wr (.cells #[.int .i64 xt, .int .i64 xk, .int .i64 xp, .int .i64 xr, .int .i64 xu, .int .i64 xc, .int .i64 xf] 76))
            have CX := Lib.hid ((hbx.block _ hcw).trans HC.out)
            have OX := Lib.hid (own_below HO.out hbx)
            obtain ⟨n0, n1, n2, n3, n4, n5, n6⟩ := accCells (x := ⟨xt, xk, xp, xr, xu, xc, xf⟩) XN.out
            simp only at n0 n1 n2 n3 n4 n5 n6
            have j0' : (0 : Int) ≤ (k : Int) := by omega
            have j1' : (k : Int) < (a.e.length : Int) := by omega
            have hzx : W6.heap.size ≤ (wr.alloc (.cells #[.int .i64 xt, .int .i64 xk, .int .i64 xp, .int .i64 xr, .int .i64 xu, .int .i64 xc, .int .i64 xf] 76)).heap.size := by simp; omega
            have HZX := Lib.hid hzx
            have hll : (a.e.take (min k m2)).length ≤ 15 := by rw [List.length_take]; omega
            clear hbx hmk hzx
            by_cases ht : xt ≤ (t : Int)
            · have d1 : decide (xt ≤ (t : Int)) = true := decide_eq_true ht
              have hkm : k < m2 := HMK.out.1 ht
              have HTK := Lib.hid (show a.e.take (min (k + 1) m2) = a.e.take (min k m2) ++ [⟨xt, xk, xp, xr, xu, xc, xf⟩] by rw [Nat.min_eq_left (by omega), Nat.min_eq_left (by omega)]; exact HTS.out)
              have HNW := Lib.hid (fun o => (by have := heap_alloc_new (wr.alloc (.cells #[.int .i64 xt, .int .i64 xk, .int .i64 xp, .int .i64 xr, .int .i64 xu, .int .i64 xc, .int .i64 xf] 76)) o; rwa [show (wr.alloc (.cells #[.int .i64 xt, .int .i64 xk, .int .i64 xp, .int .i64 xr, .int .i64 xu, .int .i64 xc, .int .i64 xf] 76)).heap.size = wr.heap.size + 1 by simp] at this : ((wr.alloc (.cells #[.int .i64 xt, .int .i64 xk, .int .i64 xp, .int .i64 xr, .int .i64 xu, .int .i64 xc, .int .i64 xf] 76)).alloc o).heap[wr.heap.size + 1]? = some o))
              clear ht hkm
              generalize a.e.take (min k m2) = L at *
              cases pk with
              | true =>
                  go_wp2_with (at_builtin; refine wpList_append_own _ rfl (.tmp 74) (.tmp 76) 26 rfl G2 76 j0 (.agg #[.int .i64 0, .int .i64 0, .int .i64 0, .int .i64 0, .int .i64 0, .int .i64 0, .int .i64 0]) 7 56 Tryz.underlying26 HJ.out HJ0.out HJ1.out HJ2.out rfl (by decide) _ L.length (av L) rfl (OX.out.alloc _) ⟨wr.heap.size + 1, 0, none⟩ 1 1 [.int .i64 xt, .int .i64 xk, .int .i64 xp, .int .i64 xr, .int .i64 xu, .int .i64 xc, .int .i64 xf] rfl rfl (World.news_of_block (HNW.out _)) (by simp [Value.oneCell']) (by unfold maxLen; omega) (by omega) (by simp; omega) ?_; intro v' w12 hown hgr _; obtain ⟨A2, c2, rfl⟩ := own_form hown; have Q12 := Lib.hid (crel_q CX.out OX.out hgr); have HADD := Lib.hid (crel_add (x := ⟨xt, xk, xp, xr, xu, xc, xf⟩) CX.out OX.out hgr hown); have B12 := Lib.hid ((HBX.out.trans ((box_below _ _).mono (by simp; omega))).grown hgr (by simp; omega) (fun g e => (OX.out.lt g e).1)); have Z12 := Lib.hid (Nat.le_trans HZX.out (Nat.le_trans (by simp) hgr.size)); have N12 := (hgr.block wr.heap.size (by simp <;> omega) (fun e => by have := (HO.out.lt _ e.symm).2; omega)).trans ((heap_alloc_old _ _ (row_lt XN.out)).trans XN.out); obtain ⟨p0, p1, p2, p3, p4, p5, p6⟩ := accCells (x := ⟨xt, xk, xp, xr, xu, xc, xf⟩) (show (w12.setCell ⟨G2, 1, none⟩ (.slice A2 (L.length + 1) c2)).heap[wr.heap.size]? = _ from (Below.heap_setCell _ _ _ _ (by show wr.heap.size ≠ G2; omega)).trans N12); simp only at p0 p1 p2 p3 p4 p5 p6; clear N12; clear hown hgr; obtain ⟨r0, r1⟩ := geCells Q12.out; have r2 : w12.frozen? ⟨G2, 1, none⟩ = false := frozen_of_row _ _ _ _ _ Q12.out)
                  rw [setCell_eq_setRow w12 G2 1 _ _ _ _ Q12.out]
                  exact ⟨⟨k + 1, by omega, by rw [HPK.out]; rfl, by go_num, by rw [HTK.out]; exact HADD.out, below_setRow B12.out (Nat.le_refl _) _, by rw [setRow_size]; exact Z12.out⟩, by simp [intOf]; omega⟩
              | false =>
                cases q5 with
                | false =>
                    go_wp2_with (at_builtin; refine wpList_append_own _ rfl (.tmp 74) (.tmp 76) 26 rfl G2 76 j0 (.agg #[.int .i64 0, .int .i64 0, .int .i64 0, .int .i64 0, .int .i64 0, .int .i64 0, .int .i64 0]) 7 56 Tryz.underlying26 HJ.out HJ0.out HJ1.out HJ2.out rfl (by decide) _ L.length (av L) rfl (OX.out.alloc _) ⟨wr.heap.size + 1, 0, none⟩ 1 1 [.int .i64 xt, .int .i64 xk, .int .i64 xp, .int .i64 xr, .int .i64 xu, .int .i64 xc, .int .i64 xf] rfl rfl (World.news_of_block (HNW.out _)) (by simp [Value.oneCell']) (by unfold maxLen; omega) (by omega) (by simp; omega) ?_; intro v' w12 hown hgr _; obtain ⟨A2, c2, rfl⟩ := own_form hown; have Q12 := Lib.hid (crel_q CX.out OX.out hgr); have HADD := Lib.hid (crel_add (x := ⟨xt, xk, xp, xr, xu, xc, xf⟩) CX.out OX.out hgr hown); have B12 := Lib.hid ((HBX.out.trans ((box_below _ _).mono (by simp; omega))).grown hgr (by simp; omega) (fun g e => (OX.out.lt g e).1)); have Z12 := Lib.hid (Nat.le_trans HZX.out (Nat.le_trans (by simp) hgr.size)); have N12 := (hgr.block wr.heap.size (by simp <;> omega) (fun e => by have := (HO.out.lt _ e.symm).2; omega)).trans ((heap_alloc_old _ _ (row_lt XN.out)).trans XN.out); obtain ⟨p0, p1, p2, p3, p4, p5, p6⟩ := accCells (x := ⟨xt, xk, xp, xr, xu, xc, xf⟩) (show (w12.setCell ⟨G2, 1, none⟩ (.slice A2 (L.length + 1) c2)).heap[wr.heap.size]? = _ from (Below.heap_setCell _ _ _ _ (by show wr.heap.size ≠ G2; omega)).trans N12); simp only at p0 p1 p2 p3 p4 p5 p6; clear N12; clear hown hgr; obtain ⟨r0, r1⟩ := geCells Q12.out; have r2 : w12.frozen? ⟨G2, 1, none⟩ = false := frozen_of_row _ _ _ _ _ Q12.out)
                    rw [setCell_eq_setRow w12 G2 1 _ _ _ _ Q12.out]
                    exact ⟨⟨k + 1, by omega, by rw [HPK.out]; rfl, by go_num, by rw [HTK.out]; exact HADD.out, below_setRow B12.out (Nat.le_refl _) _, by rw [setRow_size]; exact Z12.out⟩, by simp [intOf]; omega⟩
                | true =>
                  cases qc with
                  | false =>
                      go_wp2_with (at_builtin; refine wpList_append_own _ rfl (.tmp 74) (.tmp 76) 26 rfl G2 76 j0 (.agg #[.int .i64 0, .int .i64 0, .int .i64 0, .int .i64 0, .int .i64 0, .int .i64 0, .int .i64 0]) 7 56 Tryz.underlying26 HJ.out HJ0.out HJ1.out HJ2.out rfl (by decide) _ L.length (av L) rfl (OX.out.alloc _) ⟨wr.heap.size + 1, 0, none⟩ 1 1 [.int .i64 xt, .int .i64 xk, .int .i64 xp, .int .i64 xr, .int .i64 xu, .int .i64 xc, .int .i64 xf] rfl rfl (World.news_of_block (HNW.out _)) (by simp [Value.oneCell']) (by unfold maxLen; omega) (by omega) (by simp; omega) ?_; intro v' w12 hown hgr _; obtain ⟨A2, c2, rfl⟩ := own_form hown; have Q12 := Lib.hid (crel_q CX.out OX.out hgr); have HADD := Lib.hid (crel_add (x := ⟨xt, xk, xp, xr, xu, xc, xf⟩) CX.out OX.out hgr hown); have B12 := Lib.hid ((HBX.out.trans ((box_below _ _).mono (by simp; omega))).grown hgr (by simp; omega) (fun g e => (OX.out.lt g e).1)); have Z12 := Lib.hid (Nat.le_trans HZX.out (Nat.le_trans (by simp) hgr.size)); have N12 := (hgr.block wr.heap.size (by simp <;> omega) (fun e => by have := (HO.out.lt _ e.symm).2; omega)).trans ((heap_alloc_old _ _ (row_lt XN.out)).trans XN.out); obtain ⟨p0, p1, p2, p3, p4, p5, p6⟩ := accCells (x := ⟨xt, xk, xp, xr, xu, xc, xf⟩) (show (w12.setCell ⟨G2, 1, none⟩ (.slice A2 (L.length + 1) c2)).heap[wr.heap.size]? = _ from (Below.heap_setCell _ _ _ _ (by show wr.heap.size ≠ G2; omega)).trans N12); simp only at p0 p1 p2 p3 p4 p5 p6; clear N12; clear hown hgr; obtain ⟨r0, r1⟩ := geCells Q12.out; have r2 : w12.frozen? ⟨G2, 1, none⟩ = false := frozen_of_row _ _ _ _ _ Q12.out)
                      rw [setCell_eq_setRow w12 G2 1 _ _ _ _ Q12.out]
                      exact ⟨⟨k + 1, by omega, by rw [HPK.out]; rfl, by go_num, by rw [HTK.out]; exact HADD.out, below_setRow B12.out (Nat.le_refl _) _, by rw [setRow_size]; exact Z12.out⟩, by simp [intOf]; omega⟩
                  | true =>
                      go_wp2_with (at_builtin; refine wpList_append_own _ rfl (.tmp 74) (.tmp 76) 26 rfl G2 76 j0 (.agg #[.int .i64 0, .int .i64 0, .int .i64 0, .int .i64 0, .int .i64 0, .int .i64 0, .int .i64 0]) 7 56 Tryz.underlying26 HJ.out HJ0.out HJ1.out HJ2.out rfl (by decide) _ L.length (av L) rfl (OX.out.alloc _) ⟨wr.heap.size + 1, 0, none⟩ 1 1 [.int .i64 xt, .int .i64 xk, .int .i64 xp, .int .i64 xr, .int .i64 xu, .int .i64 xc, .int .i64 xf] rfl rfl (World.news_of_block (HNW.out _)) (by simp [Value.oneCell']) (by unfold maxLen; omega) (by omega) (by simp; omega) ?_; intro v' w12 hown hgr _; obtain ⟨A2, c2, rfl⟩ := own_form hown; have Q12 := Lib.hid (crel_q CX.out OX.out hgr); have HADD := Lib.hid (crel_add (x := ⟨xt, xk, xp, xr, xu, xc, xf⟩) CX.out OX.out hgr hown); have B12 := Lib.hid ((HBX.out.trans ((box_below _ _).mono (by simp; omega))).grown hgr (by simp; omega) (fun g e => (OX.out.lt g e).1)); have Z12 := Lib.hid (Nat.le_trans HZX.out (Nat.le_trans (by simp) hgr.size)); have N12 := (hgr.block wr.heap.size (by simp <;> omega) (fun e => by have := (HO.out.lt _ e.symm).2; omega)).trans ((heap_alloc_old _ _ (row_lt XN.out)).trans XN.out); obtain ⟨p0, p1, p2, p3, p4, p5, p6⟩ := accCells (x := ⟨xt, xk, xp, xr, xu, xc, xf⟩) (show (w12.setCell ⟨G2, 1, none⟩ (.slice A2 (L.length + 1) c2)).heap[wr.heap.size]? = _ from (Below.heap_setCell _ _ _ _ (by show wr.heap.size ≠ G2; omega)).trans N12); simp only at p0 p1 p2 p3 p4 p5 p6; clear N12; clear hown hgr; obtain ⟨r0, r1⟩ := geCells Q12.out; have r2 : w12.frozen? ⟨G2, 1, none⟩ = false := frozen_of_row _ _ _ _ _ Q12.out)
                      rw [setCell_eq_setRow w12 G2 1 _ _ _ _ Q12.out]
                      exact ⟨⟨k + 1, by omega, by rw [HPK.out]; rfl, by go_num, by rw [HTK.out]; exact HADD.out, below_setRow B12.out (Nat.le_refl _) _, by rw [setRow_size]; exact Z12.out⟩, by simp [intOf]; omega⟩
            · have d1 : decide (xt ≤ (t : Int)) = false := decide_eq_false ht
              have HTK := Lib.hid (show a.e.take (min (k + 1) m2) = a.e.take (min k m2) by rw [show min (k + 1) m2 = min k m2 by have := HMK.out; omega])
              clear ht
              cases pk with
              | true =>
                  go_wp2_with fail
                  exact ⟨⟨k + 1, by omega, by rw [HPK.out]; rfl, by go_num, by rw [HTK.out]; exact ⟨A', c', CX.out, OX.out⟩, HBX.out, HZX.out⟩, by simp [intOf]; omega⟩
              | false =>
                cases q5 with
                | false =>
                    go_wp2_with fail
                    exact ⟨⟨k + 1, by omega, by rw [HPK.out]; rfl, by go_num, by rw [HTK.out]; exact ⟨A', c', CX.out, OX.out⟩, HBX.out, HZX.out⟩, by simp [intOf]; omega⟩
                | true =>
                  cases qc with
                  | false =>
                      go_wp2_with fail
                      exact ⟨⟨k + 1, by omega, by rw [HPK.out]; rfl, by go_num, by rw [HTK.out]; exact ⟨A', c', CX.out, OX.out⟩, HBX.out, HZX.out⟩, by simp [intOf]; omega⟩
                  | true =>
                      go_wp2_with fail
                      exact ⟨⟨k + 1, by omega, by rw [HPK.out]; rfl, by go_num, by rw [HTK.out]; exact ⟨A', c', CX.out, OX.out⟩, HBX.out, HZX.out⟩, by simp [intOf]; omega⟩
          · obtain rfl : k = a.e.length := by omega
            have HTK := Lib.hid (show a.e.take (min a.e.length m2) = a.e.take m2 by rw [Nat.min_eq_right hm2])
            have hc7 := HC.out
            have ho7 := HO.out
            rw [HTK.out] at hc7 ho7 v1
            have HEC := Lib.hid (show EL wr 0 ⟨a.n, a.e.take m2⟩ ⟨A', c'⟩ from Row.base (B' := 0) (row_of_own ho7) (Nat.zero_le _))
            have HEG := Lib.hid hc7
            have BLW := Lib.hid (show Below C w3 wr from HBLK.out.trans (HBL.out.mono (Nat.le_of_lt lC2)))
            have HDC7 := Lib.hid ((HBL.out.block _ lC2).trans HDC.out)
            have HDR7 := Lib.hid (HDR.out.below (by first | exact HBL.out | (rw [hG2]; exact HBL.out)))
            have HEO2 := Lib.hid (show Eok ⟨a.n, a.e.take m2⟩ from HEO.out.take m2)
            have lC7 : C < wr.heap.size := row_lt HDC7.out
            clear v0 v1 q1 HC HO hc7 ho7
            have HPU := Lib.hid HNP.out
            clear HM2 HNP HTK
            generalize a.e.take m2 = L at *
            generalize wr = W7 at *
            have HBC := Lib.hid BLW.out
            have hF := HXL.out (d.k.length + 1)
            have hln := exL_len d a n (c : Int) (d.k.length + 1)
            have hall1 := fun w' (hw : Below W7.heap.size W7 w') => xall_any d ⟨D1, dc1, D2, dc2⟩ a ⟨A, vc⟩ n (c : Int) w' (HDF.out _ (BLW.out.trans (hw.mono (Nat.le_of_lt lC7)))) HDO.out (HEF.out _ (BLW.out.trans (hw.mono (Nat.le_of_lt lC7)))) HEO.out HAN.out ⟨by omega, by omega⟩
            have hall2 := fun w' (hw : Below W7.heap.size W7 w') => xall_any ⟨d.k, Ld⟩ ⟨D1, dc1, A0, c0⟩ ⟨a.n, L⟩ ⟨A', c'⟩ n (c : Int) w' (HDR7.out.below hw) HDO2.out (Row.below HEC.out hw) HEO2.out HAN.out ⟨by omega, by omega⟩
            unfold AlPost at hall1 hall2
            rw [show exL ⟨d.k, Ld⟩ ⟨a.n, L⟩ n (c : Int) ((⟨d.k, Ld⟩ : Dy).k.length + 1) = _ from hF] at hall2
            have hpu := HPU.out
            generalize exL d a n (c : Int) (d.k.length + 1) = F at *
            have HA1 := Lib.hid hall1
            have HA2 := Lib.hid hall2
            have HKP := Lib.hid (fun w' (hw : Below W7.heap.size W7 w') => (⟨gdCells (HQD.out _ (BLW.out.trans (hw.mono (Nat.le_of_lt lC7)))), geCells (HQE.out _ (BLW.out.trans (hw.mono (Nat.le_of_lt lC7)))), gdCells ((hw.block _ lC7).trans HDC7.out), geCells ((hw.block _ (row_lt HEG.out)).trans HEG.out)⟩ : (w'.cell? ⟨Q, 0, none⟩ = some (.slice D1 d.k.length dc1) ∧ w'.cell? ⟨Q, 1, none⟩ = some (.slice D2 d.e.length dc2)) ∧ (w'.cell? ⟨R, 0, none⟩ = some (.int .i64 a.n) ∧ w'.cell? ⟨R, 1, none⟩ = some (.slice A a.e.length vc)) ∧ (w'.cell? ⟨C, 0, none⟩ = some (.slice D1 d.k.length dc1) ∧ w'.cell? ⟨C, 1, none⟩ = some (.slice A0 Ld.length c0)) ∧ (w'.cell? ⟨G2, 0, none⟩ = some (.int .i64 a.n) ∧ w'.cell? ⟨G2, 1, none⟩ = some (.slice A' L.length c'))))
            have HFD2 := Lib.hid (show (#[.slice D1 d.k.length dc1, .slice A0 Ld.length c0] : Array Value) = gd ⟨d.k, Ld⟩ ⟨D1, dc1, A0, c0⟩ from rfl)
            have HFE2 := Lib.hid (show (#[.int .i64 a.n, .slice A' L.length c'] : Array Value) = ge ⟨a.n, L⟩ ⟨A', c'⟩ from rfl)
            obtain ⟨⟨k1, k2⟩, ⟨k3, k4⟩, ⟨k5, k6⟩, ⟨k7, k8⟩⟩ := HKP.out _ (Below.refl _ _)
            clear hall1 hall2 hF
            obtain ⟨f, hf⟩ : ∃ f, F.length = f := ⟨_, rfl⟩
            have HF := Lib.hid hf
            obtain ⟨FL, hFL⟩ : ∃ FL, F.filter (fun x => decide (x.2 ≤ t)) = FL := ⟨_, rfl⟩
            have HFL := Lib.hid hFL
            rw [hFL] at HA2
            obtain ⟨fl, hfl⟩ : ∃ fl, FL.length = fl := ⟨_, rfl⟩
            have HFLL := Lib.hid hfl
            rw [hf] at HA1 hln
            rw [hfl] at HA2
            have hfp : putB a (c : Int) a.e.length = false → f = 0 := fun h => by rw [← hf, hpu h]; rfl
            generalize putB a (c : Int) a.e.length = pb at *
            clear hf hFL hfl hpu HPU
            go_upto_region 25 with (first
              | (go_at_call 27; rw [HFD.out, HFE.out]; (with_reducible refine (HA1.out _ (Below.refl _ _)).mono ?_); rintro e w8 ⟨X, xc, rfl, hown, hb8⟩; have B8 := Lib.hid hb8; have RX := Lib.hid ((row_of_own hown).base (Nat.zero_le _)); clear hown hb8 k1 k2 k3 k4 k5 k6 k7 k8; obtain ⟨⟨k1, k2⟩, ⟨k3, k4⟩, ⟨k5, k6⟩, ⟨k7, k8⟩⟩ := HKP.out _ B8.out)
              | (go_at_call 27; rw [HFD2.out, HFE2.out]; (with_reducible refine (HA2.out _ B8.out).mono ?_); rintro e wz ⟨Y, yc, rfl, hown, hb9⟩; have BZ := Lib.hid (B8.out.trans (hb9.mono B8.out.size)); have RY := Lib.hid ((row_of_own hown).base (Nat.zero_le _)); have RZ := Lib.hid (RX.out.below hb9); clear hown hb9 k1 k2 k3 k4 k5 k6 k7 k8))
            go_cut [120] from 106 to 120 (fun s wx => s = .bool false ∧ wz = wx)
            case first =>
              cases pb with
              | true =>
                go_wp2_with fail
                go_meet
                case rel => exact ⟨by first | rfl | simp, rfl⟩
              | false =>
                have hf0 := hfp rfl
                have d0 : decide ((0 : Int) < (f : Int)) = false := decide_eq_false (by omega)
                have d0n : ¬ 0 < f := by omega
                clear hf0 hfp
                go_wp2_with fail
                go_meet
                case rel => exact ⟨by first | rfl | simp, rfl⟩
            case rest =>
            obtain ⟨rfl, rfl⟩ := hcut
            obtain ⟨j0, hj1, hy0, hy1, hy2⟩ := info_parts zinfo70
            have HJ := Lib.hid hj1
            have HJ0 := Lib.hid hy0
            have HJ1 := Lib.hid hy1
            have HJ2 := Lib.hid hy2
            clear hj1 hy0 hy1 hy2 hfp HA1 HA2 HKP HDC7 HDR7 HEC HEG
            obtain ⟨G, hG⟩ : ∃ G : Nat → List (Int × Nat), G = fun j => (F.take j).filter (fun x => decide (x.2 ≤ t)) := ⟨_, rfl⟩
            have HG0 := Lib.hid (show G 0 = [] by rw [hG]; rfl)
            have HGS := Lib.hid (fun j (hj : j < f) => (show G (j + 1) = if (xg F j).2 ≤ t then G j ++ [xg F j] else G j by
              rw [hG]
              show (F.take (j + 1)).filter _ = if (xg F j).2 ≤ t then (F.take j).filter _ ++ [xg F j] else (F.take j).filter _
              have e : F.take (j + 1) = F.take j ++ [xg F j] := by
                rw [List.take_succ_eq_append_getElem (by rw [HF.out]; exact hj)]
                congr 2
                unfold xg
                rw [List.getD_eq_getElem?_getD, List.getElem?_eq_getElem (by rw [HF.out]; exact hj)]; rfl
              rw [e, List.filter_append]
              split
              · rename_i h; simp [h]
              · rename_i h; simp [h]))
            have HGL := Lib.hid (fun j => (show (G j).length ≤ j by rw [hG]; exact Nat.le_trans (List.length_filter_le _ _) (by rw [List.length_take]; omega)))
            have HGE := Lib.hid (show G f = FL by rw [hG, ← HFL.out, ← HF.out]; show (F.take F.length).filter _ = _; rw [List.take_length])
            clear hG
            have l10 : f ≤ 1000 := by omega
            go_wp2_with fail
            go_loopw [19, 123] (fun ev ii wx => ∃ (j : Nat) (A2 : Option Addr) (c2 : Nat), j ≤ f ∧ ev = .slice A2 (G j).length c2 ∧ ii = .int .i64 (j : Int) ∧ wx.ownsRow wz.heap.size 70 2 (.slice A2 (G j).length c2) (G j).length (xv (G j)) ∧ Below wz.heap.size wz wx) (fun _ ii _ => f - (intOf ii).toNat)
            case atStart => exact ⟨0, none, 0, by omega, by rw [HG0.out]; rfl, rfl, by rw [HG0.out]; exact own_nil _ _ _ _, Below.refl _ _⟩
            case round =>
              obtain ⟨j, A2, c2, hj, rfl, rfl, hown, hbl⟩ := hrel
              rename World => wx
              have HOW := Lib.hid hown
              have HBL := Lib.hid hbl
              have hgl := HGL.out j
              clear hown hbl
              by_cases hlt : j < f
              · have hgs := HGS.out j hlt
                obtain ⟨b, off, hA, y0, y1⟩ := (RZ.out.below HBL.out).xp hlt
                subst hA
                generalize G j = L2 at *
                generalize xg F j = x at *
                obtain ⟨xp, xt⟩ := x
                simp only at y0 y1 hgs
                obtain ⟨ll, hll⟩ : ∃ ll, L2.length = ll := ⟨_, rfl⟩
                have HLL := Lib.hid hll
                rw [hll] at HOW hgl ⊢
                clear hll
                have hbx := box_below wx (.cells #[.int .i64 xp, .int .i64 (xt : Int)] 70)
                have XN := heap_alloc_new wx (.cells #[.int .i64 xp, .int .i64 (xt : Int)] 70)
                have n0 : (wx.alloc (.cells #[.int .i64 xp, .int .i64 (xt : Int)] 70)).cell? ⟨wx.heap.size, 0, none⟩ = some (.int .i64 xp) := by rw [cell_of_row _ _ _ _ _ _ XN]; rfl
                have n1 : (wx.alloc (.cells #[.int .i64 xp, .int .i64 (xt : Int)] 70)).cell? ⟨wx.heap.size, 1, none⟩ = some (.int .i64 (xt : Int)) := by rw [cell_of_row _ _ _ _ _ _ XN]; rfl
                have HBX := Lib.hid (HBL.out.trans (hbx.mono HBL.out.size))
                have OX := Lib.hid (own_below HOW.out hbx)
                have i0 : (0 : Int) ≤ (j : Int) := by omega
                have i1 : (j : Int) < (f : Int) := by omega
                have hs5 := HBL.out.size
                clear hbx XN
                by_cases hT : xt ≤ t
                · have d1 : decide ((xt : Int) ≤ (t : Int)) = true := decide_eq_true (by omega)
                  have HN := Lib.hid (hgs.trans (if_pos hT))
                  have HSV := Lib.hid (xv_snoc L2 xp xt)
                  clear hgs
                  go_wp2_with (at_builtin; refine wpList_append_own _ rfl (.tmp 131) (.tmp 133) 59 rfl wz.heap.size 70 j0 (.agg #[.int .i64 0, .int .i64 0]) 2 16 Tryz.underlying59 HJ.out HJ0.out HJ1.out HJ2.out rfl (by decide) _ ll (xv L2) rfl (OX.out.alloc _) ⟨wx.heap.size + 1, 0, none⟩ 1 1 [.int .i64 xp, .int .i64 (xt : Int)] rfl rfl (World.news_of_block (show ((wx.alloc (.cells #[.int .i64 xp, .int .i64 (xt : Int)] 70)).alloc _).heap[wx.heap.size + 1]? = some _ from by have := heap_alloc_new (wx.alloc (.cells #[.int .i64 xp, .int .i64 (xt : Int)] 70)) (.cells #[.int .i64 xp, .int .i64 (xt : Int)] 70); rwa [show (wx.alloc (.cells #[.int .i64 xp, .int .i64 (xt : Int)] 70)).heap.size = wx.heap.size + 1 by simp] at this)) (by simp [Value.oneCell']) (by unfold maxLen; omega) (by omega) (by simp; omega) ?_; intro v' w6 hown6 hgr _; obtain ⟨A6, c6, rfl⟩ := own_form hown6; have O6 := Lib.hid hown6; have B6 := Lib.hid ((HBX.out.trans ((box_below _ _).mono HBX.out.size)).grown hgr (by simp; omega) (fun g e => (OX.out.lt g e).1)); clear hown6 hgr)
                  exact ⟨⟨j + 1, A6, c6, by omega, by rw [HN.out, List.length_append, HLL.out]; rfl, by go_num, by rw [HN.out, List.length_append, HLL.out, HSV.out]; exact O6.out, B6.out⟩, by simp [intOf]; omega⟩
                · have d1 : decide ((xt : Int) ≤ (t : Int)) = false := decide_eq_false (by omega)
                  have HN := Lib.hid (hgs.trans (if_neg hT))
                  clear hgs
                  go_wp2_with fail
                  exact ⟨⟨j + 1, A2, c2, by omega, by rw [HN.out, HLL.out], by go_num, by rw [HN.out, HLL.out]; exact OX.out, HBX.out⟩, by simp [intOf]; omega⟩
              · obtain rfl : f = j := by omega
                have hge := HGE.out
                rw [hge, HFLL.out] at HOW
                rw [hge, HFLL.out]
                have hfl2 := hgl
                rw [hge, HFLL.out] at hfl2
                have hsm := xsame_any A2 Y fl c2 yc FL wx ((row_of_own HOW.out).base (Nat.zero_le _)) (RY.out.below HBL.out) (by omega)
                have HSM := Lib.hid hsm
                have BX := Lib.hid (BLW.out.trans ((BZ.out.trans (HBL.out.mono BZ.out.size)).mono (Nat.le_of_lt lC7)))
                have HCX := Lib.hid (Nat.le_trans (Nat.le_of_lt lC7) (Nat.le_trans BZ.out.size HBL.out.size))
                clear hsm hge
                go_wp2_with (first
                  | (go_at_call 35; refine HSM.out.mono ?_; rintro e wa ⟨rfl, hba⟩; have BA := Lib.hid (BX.out.trans (hba.mono HCX.out)); clear hba)
                  | (go_at_call 26; refine (xawake_any _).mono ?_; rintro e w9 ⟨rfl, hb9⟩; have HB9 := Lib.hid ((HBF.out _ BA.out).trans (hb9.mono (HBF.out _ BA.out).size)); clear hb9))
                go_ret
                exact ⟨by first | rfl | simp, HB9.out⟩

/-! ### THE ROW's STEP: WRITTEN OUT: LEAVE IT -/
set_option maxRecDepth 100000 in
theorem lifted (os : Os) (started : os.Started) (H : Type) (enc : TypeId × Value → H) :
    ReturnsInHanded {} Tryz.checked os 7 .any (Rows.exposureCutSpec.pre6 enc Tryz.prog Tryz.f7 Rows.exposureCutRow.domain false) (Rows.exposureCutSpec.post enc Tryz.prog Tryz.f7 false true false false) := by
  refine returnsInHanded_of_change (C := Tryz.checked) own started (by kernel_rfl) Tryz.func7
    (ChangeSpec.witness6 (enc := enc) (C := Tryz.checked) false ⟨#[], #[.slice none 0 0], []⟩ 8 (by kernel_rfl) (by kernel_rfl) (by kernel_rfl) (by kernel_rfl)) ?_
  intro W base args ds gs before hval0 hW hcnd _
  have hval : ∀ (j : Nat) t v, Tryz.f7.params[j]? = some t → args[j]? = some v → Value.okWide Tryz.prog W .any base t v := hval0
  have hW' := hW
  obtain ⟨p, q, hA0, hV, rfl, hfz, hnd⟩ := hW
  have hA : DataW.TrodAll enc Tryz.prog W 0 (fun _ => true) true Tryz.f7.params.toList args.toList ds p := hA0
  rw [Tryz.params7] at hA hval
  obtain ⟨v0, vs0, d0, ds0, p0, q0, hargs, rfl, rfl, h0, r0⟩ := trodAll_cons hA
  obtain ⟨rfl, rfl, rfl⟩ := trodAll_nil r0
  obtain rfl : args = #[v0] := by cases args; simp_all
  obtain ⟨rfl, rfl⟩ := trodVars_none hV
  obtain ⟨a0, len0, cap0, rfl⟩ := okWide_slice Tryz.underlying22 (hval 0 22 v0 rfl rfl)
  have k0 := h0
  have lt0 : ∀ x ∈ p0, x.block < W.heap.size := by obtain ⟨m, hm⟩ := k0; exact DataW.trod_lt m _ _ _ hm
  obtain ⟨z0, w0⟩ : ∃ zs, IsRow .i64 W a0 len0 cap0 zs := by
    obtain ⟨fuel, hf⟩ := h0
    rcases open_ints Tryz.underlying22 Tryz.underlying3 (by kernel_rfl) hf with ⟨hcs, _⟩ | ⟨x, l, c, zs, hcs, _, hl, hm, hz, _, hcell, hwz⟩
    · simp [Value.cells] at hcs
      obtain ⟨rfl, rfl, rfl⟩ := hcs
      exact ⟨[], .inl ⟨rfl, rfl, rfl, rfl⟩⟩
    · simp [Value.cells] at hcs
      obtain ⟨rfl, rfl, rfl⟩ := hcs
      exact ⟨zs, .inr ⟨_, rfl, hl, hm, by simpa using hz, hcell, hwz⟩⟩
  clear hA0 hval0
  refine (walk a0 len0 cap0 z0 W w0).mono fun e W' ⟨he, bel⟩ => ?_
  subst he
  exact ⟨_, rfl, _, _, _, [], _, [], hW', trodAll_mk1 (shut_bool Tryz.underlying4 _), (trodAll_cons_mk (Below.trod laidOut (by kernel_rfl) (of_decide_eq_true (by kernel_rfl)) k0 bel lt0) trodAll_mk0), rfl, bel.frame _, fun h => by cases h⟩

theorem over : Rows.exposureCutRow.holds Tryz.pinned (OpenSpec.ofChange Rows.exposureCutSpec) :=
  OpenClaim.holds_of_wide 7 Tryz.f7 rfl rfl rfl rfl rfl rfl rfl ⟨rfl, rfl, rfl, rfl, rfl⟩ rfl rfl rfl rfl rfl (by kernel_rfl) Tryz.func7 (by kernel_rfl)
    (of_decide_eq_true (by kernel_rfl)) (by unfold Func.isWrapper; first | (rw [if_pos (by decide +kernel)]; kernel_rfl) | (rw [if_neg (by decide +kernel)]; exact ⟨rfl, rfl⟩))
    (fun os started H enc _ => lifted os started H enc)

/-- ████ THE STATEMENT ████ -/
theorem proved : Rows.ExposureCutSaid := over
#print axioms proved
end Go.Proofs.YtgknfkmojhganaaGreat.exposureCut
