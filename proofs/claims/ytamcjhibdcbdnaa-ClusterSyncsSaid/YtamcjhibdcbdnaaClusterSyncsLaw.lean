/-
  The Go function leakresponse/leakresponselaw36.ClusterSyncs returns true for every list of numbers, and leaves what was there as it was; no conditions.
-/
import Derived.Test.YtamcjhibdcbdnaaCLx
import Derived.Test.YtamcjhibdcbdnaaRows
import Derived.WalkKit
import Derived.ProofKit
import Derived.OpenShut
import Derived.ShutString
import Derived.ChangeOld
import Derived.Below
import Derived.IntWalk
import Derived.Deep.RegionHeld3
namespace Go.Proofs.Ytamcjhibdcbdnaa.clusterSyncs
open Go.ChangeShapes Go.WideShapes Go.ChangeAt Go.RowKit
open Go.ChangeMaps (open_string shut_string)
open Go.Proofs.Ytamcjhibdcbdnaa.Tp
open Go.Proofs.Ytamcjhibdcbdnaa.Cl
set_option linter.unusedVariables false

set_option maxRecDepth 100000 in
set_option maxHeartbeats 4000000 in
theorem walk (a0 : Option Addr) (len0 cap0 : Nat) (z0 : List Int) (w : World) (w0 : IsRow .i64 w a0 len0 cap0 z0) :
    Calls Try.prog 6 #[.slice a0 len0 cap0] w fun e w' => e = .returned (.bool true) ∧ Below w.heap.size w w' := by
  have hm := w0.at_.1
  unfold maxLen at hm
  have HTP := Lib.hid (tape_new w0)
  have HBX := Lib.hid (box_below w (.cells #[.slice a0 len0 cap0, .int .i64 0] 32))
  clear w0
  by_cases hlen : 300 < len0
  · have hl0 : (300 : Int) < (len0 : Int) := by omega
    go_enter Try.func6, Try.ntmps6
    go_wp2_with (go_at_call 13; refine (awake36 _).mono ?_; rintro e w1 ⟨rfl, hb1⟩; have HB1 := Lib.hid hb1; clear hb1)
    go_ret
    exact ⟨rfl, HB1.out⟩
  · have hl0 : (len0 : Int) ≤ (300 : Int) := by omega
    go_enter Try.func6, Try.ntmps6
    go_wp2_with fail
    refine (cluster_any w.heap.size _ HTP.out (by simp)).mono ?_
    rintro e w1 ⟨c, v, rfl, hok, hcl, hg1, ht1⟩
    have hb1 : Below w.heap.size w w1 := HBX.out.grown hg1 HBX.out.size (fun k e => by cases e; exact Nat.le_refl _)
    have hs1 := hg1.size
    simp at hs1
    have HQ := Lib.hid (heap_alloc_new w1 (.cells (cv c v) 25))
    have HC := Lib.hid ((hcl.base (show w.heap.size + 1 ≤ _ by simp)).below (box_below w1 (.cells (cv c v) 25)))
    have HB1 := Lib.hid (hb1.trans ((box_below w1 (.cells (cv c v) 25)).mono hb1.size))
    have HT1 := Lib.hid (tape_new2 ht1 (.cells (cv c v) 25))
    have HOK := Lib.hid hok
    have hr1 := hok.r1
    have hr2 := hok.r2
    have hss1 := hok.s1
    have hss2 := hok.s2
    have hp2 := hok.p2
    have HN := Lib.hid (fun w' (ht : TapeOk w' w.heap.size) => next_any w.heap.size (c.r.length : Int) w' ht (by omega) (by omega))
    clear hcl hg1 ht1 hb1 hok
    obtain ⟨c0, c1, c2, c3⟩ := cvCells _ _ _ _ _ _ HQ.out
    go_wp2_with (with_reducible (show wpList _ _ _ (⟨none, .store 25 (.tmp 4) (.tmp 23), _, _, _, _⟩ :: _) _ _); refine wpList_store_row (o := ⟨none, .store 25 (.tmp 4) (.tmp 23), _, _, _, _⟩) rfl 25 (.tmp 4) (.tmp 23) rfl w1.heap.size (cv c v) rfl rfl 25 zC (heap_alloc_new _ _) (info25 _ _) rfl (cv_one _ _) ?_; rw [new_set])
    refine (HN.out _ HT1.out).mono ?_
    rintro e w2 ⟨r, hr0, hrl, rfl, hg2, ht2⟩
    obtain ⟨i, rfl⟩ : ∃ i : Nat, r = i := ⟨r.toNat, by omega⟩
    have hi : i < c.r.length := by omega
    have hg2' : (w1.alloc (.cells (cv c v) 25)).grownBy w2 (some w.heap.size) := hg2
    have Q2 := Lib.hid ((hg2'.block w1.heap.size (by simp) (by simp; omega)).trans HQ.out)
    have HC2 := Lib.hid (HC.out.grown hg2' (fun g e => by cases e; omega))
    have HB2 := Lib.hid (HB1.out.grown hg2' HB1.out.size (fun k e => by cases e; exact Nat.le_refl _))
    generalize w1.heap.size = Q at *
    clear hg2 hg2' ht2 hr0 hrl c0 c1 c2 c3
    have lQ : Q < w2.heap.size := row_lt Q2.out
    obtain ⟨c0, c1, c2, c3⟩ := cvCells _ _ _ _ _ _ Q2.out
    go_wp2_with fail
    refine (sync_p HC2.out HOK.out hi (by omega)).mono ?_
    rintro e w4 ⟨v4, rfl, hc4, hb4⟩
    have hdl : (sy1 c i).r.length = c.r.length := by simp [sy1]
    have hds : (sy1 c i).s = c.s := rfl
    have hdf : (sy1 c i).f = c.f := rfl
    have hda : ∀ j, rd (sy1 c i).r j = if j = i then (c.s.length - 1, true) else rd c.r j := fun j => rd_set _ _ _ _ hi
    have HDL := Lib.hid hdl
    have HDS := Lib.hid (show (sy1 c i).s.length = c.s.length from rfl)
    have HDA := Lib.hid hda
    have HOKD := Lib.hid (ok_sync HOK.out hi)
    have HACC := Lib.hid (fun b => acc_sync (c := c) (i := i) (b := b) hi)
    clear hdl hds hdf hda
    generalize sy1 c i = D at *
    have l4 := hb4.size
    have Q4 := Lib.hid ((heap_alloc_old w4 (.cells (cv D v4) 25) (by omega)).trans ((hb4.block Q lQ).trans Q2.out))
    have QD4 := Lib.hid (heap_alloc_new w4 (.cells (cv D v4) 25))
    have HC4 := Lib.hid ((HC2.out.below hb4).below (box_below w4 (.cells (cv D v4) 25)))
    have HD4 := Lib.hid (hc4.below (box_below w4 (.cells (cv D v4) 25)))
    have HB4 := Lib.hid ((HB2.out.trans (hb4.mono HB2.out.size)).trans ((box_below w4 (.cells (cv D v4) 25)).mono (by have := HB2.out.size; omega)))
    clear hb4 hc4 c0 c1 c2 c3
    obtain ⟨c0, c1, c2, c3⟩ := cvCells _ _ _ _ _ _ Q4.out
    obtain ⟨y0, y1, y2, y3⟩ := cvCells _ _ _ _ _ _ QD4.out
    rw [HDL.out] at y2
    rw [HDS.out] at y1
    go_wp2_with (with_reducible (show wpList _ _ _ (⟨none, .store 25 (.tmp 6) (.tmp 34), _, _, _, _⟩ :: _) _ _); refine wpList_store_row (o := ⟨none, .store 25 (.tmp 6) (.tmp 34), _, _, _, _⟩) rfl 25 (.tmp 6) (.tmp 34) rfl w4.heap.size (cv D v4) rfl rfl 25 zC (heap_alloc_new _ _) (info25 _ _) rfl (cv_one _ _) ?_; rw [new_set])
    generalize w4.heap.size = G at *
    generalize w4.alloc (.cells (cv D v4) 25) = W5 at *
    clear c0 c1 c2 c3 y0 y1 y2 y3
    go_loopw [59] (fun ii wr => ∃ k : Nat, k ≤ c.r.length ∧ ii = .int .i64 k ∧ Below W5.heap.size W5 wr) (fun ii _ => c.r.length - (intOf ii).toNat)
    case atStart => exact ⟨0, by omega, rfl, Below.refl _ _⟩
    case round =>
      obtain ⟨k, hk, rfl, hbl⟩ := hrel
      have HBL := Lib.hid hbl
      have QK := Lib.hid ((hbl.block Q (row_lt Q4.out)).trans Q4.out)
      have GK := Lib.hid ((hbl.block G (row_lt QD4.out)).trans QD4.out)
      have lQ4 := row_lt QK.out
      have lG4 := row_lt GK.out
      have HCK := Lib.hid (HC4.out.below hbl)
      have HDK := Lib.hid (HD4.out.below hbl)
      clear hbl
      by_cases hlt : k < c.r.length
      · obtain ⟨bc, oc, hA, -, lbc, d0, d1⟩ := HCK.out.r2.rep hlt
        obtain ⟨bd, od, hA2, -, lbd, e0, e1⟩ := HDK.out.r2.rep (show k < D.r.length by rw [HDL.out]; exact hlt)
        rw [HDA.out] at e0 e1
        have hX := fun o => cvCells _ _ _ _ _ _ ((heap_alloc_old wr o lQ4).trans QK.out)
        have hY := fun o => cvCells _ _ _ _ _ _ ((heap_alloc_old wr o lG4).trans GK.out)
        obtain ⟨c0, c1, c2, c3⟩ := cvCells _ _ _ _ _ _ QK.out
        have f0 : ∀ o, (wr.alloc o).cell? ⟨bd, od + k * 2, none⟩ = _ := fun o => (World.cell?_alloc_lt wr o _ lbd).trans e0
        have f1 : ∀ o, (wr.alloc o).cell? ⟨bd, od + k * 2 + 1, none⟩ = _ := fun o => (World.cell?_alloc_lt wr o _ lbd).trans e1
        have i0 : (0 : Int) ≤ (k : Int) := by omega
        have i1 : (k : Int) < (c.r.length : Int) := by omega
        have x0 := fun o => (hX o).1
        have x1 := fun o => (hX o).2.1
        have x2 := fun o => (hX o).2.2.1
        have x3 := fun o => (hX o).2.2.2
        have y0 := fun o => (hY o).1
        have y1 := fun o => (hY o).2.1
        have y2 := fun o => (hY o).2.2.1
        have y3 := fun o => (hY o).2.2.2
        simp only [HDL.out, HDS.out] at y1 y2
        simp only [hA] at x2
        simp only [hA2] at y2
        rw [hA] at c2
        rw [hA, hA2]
        clear hA hA2
        clear hX hY
        have hsub : ((c.s.length - 1 : Nat) : Int) = (c.s.length : Int) - 1 := by omega
        have hbox : ∀ o, Below W5.heap.size W5 (wr.alloc o) := fun o => HBL.out.trans ((box_below wr o).mono HBL.out.size)
        have HBOX := Lib.hid hbox
        clear hbox
        by_cases hki : k = i
        · have k1 : ((k : Int) == (i : Int)) = true := by rw [hki]; simp
          rw [if_pos hki] at e0 e1
          simp only [if_pos hki, hsub] at f0 f1
          clear hsub hki
          go_wp2_with fail
          go_quiet (fail)
          go_wp2_with fail
          have hb := HBOX.out (.cells #[.int .i64 ((c.s.length : Int) - 1), .bool true] 60)
          exact ⟨⟨k + 1, by omega, by go_num, ⟨hb.os, hb.tape, hb.output, hb.size, hb.block⟩⟩, by simp [intOf]; omega⟩
        · have k1 : ((k : Int) == (i : Int)) = false := beq_eq_false_iff_ne.2 (by omega)
          rw [if_neg hki] at e0 e1
          simp only [if_neg hki] at f0 f1
          clear hsub
          generalize (rd c.r k).1 = g at *
          generalize (rd c.r k).2 = sv at *
          go_wp2_with fail
          go_quiet (fail)
          go_wp2_with fail
          have hb := HBOX.out (.cells #[.int .i64 (g : Int), .bool sv] 60)
          exact ⟨⟨k + 1, by omega, by go_num, ⟨hb.os, hb.tape, hb.output, hb.size, hb.block⟩⟩, by simp [intOf]; omega⟩
      · go_wp2_with fail
        go_loopw [10] (fun ii wt => ∃ k : Nat, 1 ≤ k ∧ k ≤ 3 ∧ ii = .int .i64 k ∧ Below W5.heap.size W5 wt) (fun ii _ => 3 - (intOf ii).toNat)
        case atStart => exact ⟨1, by omega, by omega, rfl, HBL.out⟩
        case round =>
          obtain ⟨b, hb1, hb3, rfl, hbl⟩ := hrel
          have HBM := Lib.hid hbl
          clear QK GK lQ4 lG4 HCK HDK
          have QK := Lib.hid ((hbl.block Q (row_lt Q4.out)).trans Q4.out)
          have GK := Lib.hid ((hbl.block G (row_lt QD4.out)).trans QD4.out)
          have lQ4 := row_lt QK.out
          have lG4 := row_lt GK.out
          have HCK := Lib.hid (HC4.out.below hbl)
          have HDK := Lib.hid (HD4.out.below hbl)
          have HBW := Lib.hid (HB4.out.trans (hbl.mono HB4.out.size))
          clear hbl
          by_cases hb2 : b ≤ 2
          · have hs := HOK.out.sb (c.s.length - 1) (by omega)
            have hd := has_dec (c.s.getD (c.s.length - 1) 0) b hs (by omega)
            have hn : newest c = c.s.getD (c.s.length - 1) 0 := rfl
            have hbb : b = 1 ∨ b = 2 := by omega
            have hac : ∀ w', Below wr.heap.size wr w' → Calls Try.prog 29 #[.agg #[.bool D.f, .slice v4.A1 D.s.length v4.c1, .slice v4.A2 D.r.length v4.c2, .slice v4.A3 D.p.length v4.c3], .int .i64 (i : Int), .int .i64 (b : Int)] w' fun e w'' => e = .returned (.bool (has (newest c) b)) ∧ Below w'.heap.size w' w'' := fun w' hw => by
              have := accb_p (b := b) (HDK.out.below hw) HOKD.out (by omega) (show i < D.r.length by rw [HDL.out]; exact hi) hbb
              rw [HACC.out] at this
              exact this
            rw [hn, HDS.out, HDL.out] at hac
            have HAC := Lib.hid hac
            have hk : ∀ w', Below wr.heap.size wr w' → (w'.cell? ⟨G, 0, none⟩ = some (.bool D.f) ∧ w'.cell? ⟨G, 1, none⟩ = some (.slice v4.A1 c.s.length v4.c1) ∧ w'.cell? ⟨G, 2, none⟩ = some (.slice v4.A2 c.r.length v4.c2) ∧ w'.cell? ⟨G, 3, none⟩ = some (.slice v4.A3 D.p.length v4.c3) ∧ w'.cell? ⟨Q, 1, none⟩ = some (.slice v.A1 c.s.length v.c1) ∧ Below wr.heap.size wr w') := fun w' hw => by
              obtain ⟨q0, q1, q2, q3⟩ := cvCells _ _ _ _ _ _ ((hw.block G lG4).trans GK.out)
              obtain ⟨p0, p1, p2, p3⟩ := cvCells _ _ _ _ _ _ ((hw.block Q lQ4).trans QK.out)
              rw [HDS.out] at q1
              rw [HDL.out] at q2
              exact ⟨q0, q1, q2, q3, p1, hw⟩
            have HK := Lib.hid hk
            clear hac hk hn
            obtain ⟨bs, os, hA, -, lbs, t0⟩ := HCK.out.r1.int (i := c.s.length - 1) (by omega)
            rw [hA] at HK
            rw [hA]
            generalize c.s.getD (c.s.length - 1) 0 = x at *
            have j0 : (0 : Int) ≤ (c.s.length : Int) - 1 := by omega
            have j1 : (c.s.length : Int) - 1 < (c.s.length : Int) := by omega
            have j2 : ((c.s.length : Int) - 1).toNat = c.s.length - 1 := by omega
            have j3 : decide ((c.s.length : Int) - 1 < 0) = false := decide_eq_false (by omega)
            have j4 : decide ((c.s.length : Int) ≤ (c.s.length : Int) - 1) = false := decide_eq_false (by omega)
            have j5 : ¬ ((c.s.length : Int) - 1 < 0) := by omega
            have j6 : (1 : Int) ≤ (c.s.length : Int) := by omega
            have j7 : ¬ ((c.s.length : Int) < 1) := by omega
            have j8 : IntKind.i64.wrap ((c.s.length : Int) - 1) = (c.s.length : Int) - 1 := IntWalk.i64_in _ (by omega)
            clear hA
            have hbr : Below wr.heap.size wr wr := Below.refl _ _
            have hbd : Below wr.heap.size wr wr.drew := hbr.drew
            have ht : ∀ w', Below wr.heap.size wr w' → w'.cell? ⟨bs, os + (c.s.length - 1), none⟩ = some (.int .i64 (x : Int)) := fun w' hw => (hw.cell (p := ⟨bs, os + (c.s.length - 1), none⟩) lbs).trans t0
            have HT := Lib.hid ht
            have hk2 : ∀ w', Below wr.heap.size wr w' → _ := fun w' hw => And.intro (HT.out w' hw) (HK.out w' hw)
            have HK2 := Lib.hid hk2
            clear ht hk2 HT HK t0
            generalize has x b = H at *
            have hd2 : (bits .and .i64 (x : Int) (b : Int) != 0) = H := by rw [bne, hd, Bool.not_not]
            have b1 : (b : Int) ≤ 2 := by omega
            clear hd hs
            cases H <;>
            · go_wp2_with fail
              go_region_held3 (fun w' => w'.cell? ⟨bs, os + (c.s.length - 1), none⟩ = some (.int .i64 (x : Int)) ∧ w'.cell? ⟨G, 0, none⟩ = some (.bool D.f) ∧ w'.cell? ⟨G, 1, none⟩ = some (.slice v4.A1 c.s.length v4.c1) ∧ w'.cell? ⟨G, 2, none⟩ = some (.slice v4.A2 c.r.length v4.c2) ∧ w'.cell? ⟨G, 3, none⟩ = some (.slice v4.A3 D.p.length v4.c3) ∧ w'.cell? ⟨Q, 1, none⟩ = some (.slice (some ⟨bs, os, none⟩) c.s.length v.c1) ∧ Below wr.heap.size wr w')
                (first | (with_reducible assumption) | (with_reducible exact HK2.out _ hbr) | (with_reducible exact HK2.out _ hbd) | (go_split_ands; exact HK2.out _ (Below.trans (by with_reducible assumption) (hb2.mono (Below.size (by with_reducible assumption))))))
                (first
                  | (go_at_call 29; (with_reducible refine (HAC.out _ ?_).mono ?_); (go_split_ands; with_reducible assumption); rintro e w2 ⟨rfl, hb2⟩))
              go_wp2_with fail
              go_split_ands
              rename_i hfin
              exact ⟨⟨b + 1, by omega, by omega, by go_num, HBM.out.trans (hfin.mono HBM.out.size)⟩, by simp [intOf]; omega⟩
          · obtain rfl : b = 3 := by omega
            obtain ⟨x0, x1, x2, x3⟩ := cvCells _ _ _ _ _ _ QK.out
            go_wp2_with fail
            refine (snap_p HCK.out HOK.out hi (by omega)).mono ?_
            rintro e w6 ⟨v6, rfl, hc6, hb6⟩
            have HOKS := Lib.hid (ok_snap HOK.out hi)
            have HSP := Lib.hid (show (⟨c.f, c.s, c.r, c.p ++ [(rd c.r i).1]⟩ : Cl).p.length = c.p.length + 1 by simp)
            have HSR := Lib.hid (show (⟨c.f, c.s, c.r, c.p ++ [(rd c.r i).1]⟩ : Cl).r = c.r from rfl)
            have HSF := Lib.hid (show (⟨c.f, c.s, c.r, c.p ++ [(rd c.r i).1]⟩ : Cl).f = c.f from rfl)
            have HSG := Lib.hid (show (⟨c.f, c.s, c.r, c.p ++ [(rd c.r i).1]⟩ : Cl).p.getD c.p.length 0 = (rd c.r i).1 from gd_end _ _)
            generalize (⟨c.f, c.s, c.r, c.p ++ [(rd c.r i).1]⟩ : Cl) = S at *
            have l6 := hb6.size
            have Q6 := Lib.hid ((heap_alloc_old w6 (.cells (cv S v6) 25) (by omega)).trans ((hb6.block Q lQ4).trans QK.out))
            have S6 := Lib.hid (heap_alloc_new w6 (.cells (cv S v6) 25))
            have HC6 := Lib.hid ((HCK.out.below hb6).below (box_below w6 (.cells (cv S v6) 25)))
            have HS6 := Lib.hid (hc6.below (box_below w6 (.cells (cv S v6) 25)))
            have HB6 := Lib.hid ((HBW.out.trans (hb6.mono HBW.out.size)).trans ((box_below w6 (.cells (cv S v6) 25)).mono (by have := HBW.out.size; omega)))
            clear hb6 hc6 x0 x1 x2 x3
            obtain ⟨x0, x1, x2, x3⟩ := cvCells _ _ _ _ _ _ Q6.out
            obtain ⟨y0, y1, y2, y3⟩ := cvCells _ _ _ _ _ _ S6.out
            go_wp2_with (with_reducible (show wpList _ _ _ (⟨none, .store 25 (.tmp 11) (.tmp 108), _, _, _, _⟩ :: _) _ _); refine wpList_store_row (o := ⟨none, .store 25 (.tmp 11) (.tmp 108), _, _, _, _⟩) rfl 25 (.tmp 11) (.tmp 108) rfl w6.heap.size (cv S v6) rfl rfl 25 zC (heap_alloc_new _ _) (info25 _ _) rfl (cv_one _ _) ?_; rw [new_set])
            refine (rest_p HS6.out HOKS.out (by rw [HSR.out]; exact hi) (by rw [HSP.out]; omega) (by omega)).mono ?_
            rintro e w7 ⟨v7, rfl, hc7, hb7⟩
            have HRL := Lib.hid (show (⟨S.f, S.s, S.r.set i (S.p.getD c.p.length 0, !S.f), S.p⟩ : Cl).r.length = c.r.length by simp [HSR.out])
            have HRI := Lib.hid (show rd (⟨S.f, S.s, S.r.set i (S.p.getD c.p.length 0, !S.f), S.p⟩ : Cl).r i = ((rd c.r i).1, !c.f) by
              show rd (S.r.set i _) i = _
              rw [rd_set _ _ _ _ (by rw [HSR.out]; exact hi), if_pos rfl, HSG.out, HSF.out])
            generalize (⟨S.f, S.s, S.r.set i (S.p.getD c.p.length 0, !S.f), S.p⟩ : Cl) = R at *
            have l7 := hb7.size
            have Q7 := Lib.hid ((heap_alloc_old w7 (.cells (cv R v7) 25) (Nat.lt_of_lt_of_le (row_lt Q6.out) l7)).trans ((hb7.block Q (row_lt Q6.out)).trans Q6.out))
            have R7 := Lib.hid (heap_alloc_new w7 (.cells (cv R v7) 25))
            have HC7 := Lib.hid ((HC6.out.below hb7).below (box_below w7 (.cells (cv R v7) 25)))
            have HR7 := Lib.hid (hc7.below (box_below w7 (.cells (cv R v7) 25)))
            have HB7 := Lib.hid ((HB6.out.trans (hb7.mono HB6.out.size)).trans ((box_below w7 (.cells (cv R v7) 25)).mono (Nat.le_trans HB6.out.size l7)))
            clear hb7 hc7 x0 x1 x2 x3 y0 y1 y2 y3
            go_wp2_with (with_reducible (show wpList _ _ _ (⟨none, .store 25 (.tmp 13) (.tmp 118), _, _, _, _⟩ :: _) _ _); refine wpList_store_row (o := ⟨none, .store 25 (.tmp 13) (.tmp 118), _, _, _, _⟩) rfl 25 (.tmp 13) (.tmp 118) rfl w7.heap.size (cv R v7) rfl rfl 25 zC (heap_alloc_new _ _) (info25 _ _) rfl (cv_one _ _) ?_; rw [new_set])
            generalize w7.heap.size = J at *
            generalize w7.alloc (.cells (cv R v7) 25) = W8 at *
            obtain ⟨bc, oc, hA, -, lbc, d0, d1⟩ := HC7.out.r2.rep hi
            obtain ⟨br, or, hA2, -, lbr, e0, e1⟩ := HR7.out.r2.rep (show i < R.r.length by rw [HRL.out]; exact hi)
            rw [HRI.out] at e0 e1
            have i0 : (0 : Int) ≤ (i : Int) := by omega
            have i1 : (i : Int) < (c.r.length : Int) := by omega
            have hk : ∀ w', Below W8.heap.size W8 w' → (w'.cell? ⟨J, 2, none⟩ = some (.slice (some ⟨br, or, none⟩) c.r.length v7.c2) ∧ w'.cell? ⟨Q, 2, none⟩ = some (.slice (some ⟨bc, oc, none⟩) c.r.length v.c2) ∧ w'.cell? ⟨Q, 0, none⟩ = some (.bool c.f) ∧ w'.cell? ⟨br, or + i * 2, none⟩ = some (.int .i64 (((rd c.r i).1 : Nat) : Int)) ∧ w'.cell? ⟨br, or + i * 2 + 1, none⟩ = some (.bool (!c.f)) ∧ w'.cell? ⟨bc, oc + i * 2, none⟩ = some (.int .i64 (((rd c.r i).1 : Nat) : Int)) ∧ Below W8.heap.size W8 w') := fun w' hw => by
              obtain ⟨q0, q1, q2, q3⟩ := cvCells _ _ _ _ _ _ ((hw.block J (row_lt R7.out)).trans R7.out)
              obtain ⟨p0, p1, p2, p3⟩ := cvCells _ _ _ _ _ _ ((hw.block Q (row_lt Q7.out)).trans Q7.out)
              rw [HRL.out, hA2] at q2
              rw [hA] at p2
              exact ⟨q2, p2, p0, (hw.cell (p := ⟨br, or + i * 2, none⟩) lbr).trans e0, (hw.cell (p := ⟨br, or + i * 2 + 1, none⟩) lbr).trans e1, (hw.cell (p := ⟨bc, oc + i * 2, none⟩) lbc).trans d0, hw⟩
            have HK := Lib.hid hk
            clear hk d0 d1 e0 e1
            rw [hA]
            clear hA hA2
            have hbr : Below W8.heap.size W8 W8 := Below.refl _ _
            have hbd : Below W8.heap.size W8 W8.drew := hbr.drew
            have haw : ∀ w, Calls Try.prog 13 #[] w fun e w' => e = .returned (.bool true) ∧ Below w.heap.size w w' := awake36
            have HAW := Lib.hid haw
            clear haw
            generalize (rd c.r i).1 = g at *
            have hH : ∃ f, c.f = f := ⟨_, rfl⟩
            obtain ⟨f, hf⟩ := hH
            rw [hf] at HK
            rw [hf]
            clear hf
            go_region_held3 (fun w' => w'.cell? ⟨J, 2, none⟩ = some (.slice (some ⟨br, or, none⟩) c.r.length v7.c2) ∧ w'.cell? ⟨Q, 2, none⟩ = some (.slice (some ⟨bc, oc, none⟩) c.r.length v.c2) ∧ w'.cell? ⟨Q, 0, none⟩ = some (.bool f) ∧ w'.cell? ⟨br, or + i * 2, none⟩ = some (.int .i64 (g : Int)) ∧ w'.cell? ⟨br, or + i * 2 + 1, none⟩ = some (.bool (!f)) ∧ w'.cell? ⟨bc, oc + i * 2, none⟩ = some (.int .i64 (g : Int)) ∧ Below W8.heap.size W8 w')
                (first | (with_reducible assumption) | (with_reducible exact HK.out _ hbr) | (with_reducible exact HK.out _ hbd) | (go_split_ands; exact HK.out _ (Below.trans (by with_reducible assumption) (hb2.mono (Below.size (by with_reducible assumption))))))
                (first
                  | (go_at_call 13; (with_reducible refine (HAW.out _).mono ?_); rintro e w2 ⟨rfl, hb2⟩))
            go_wp2_with fail
            go_ret
            go_split_ands
            rename_i hfin
            exact ⟨rfl, HB7.out.trans (hfin.mono HB7.out.size)⟩

/-! ### THE ROW's STEP: WRITTEN OUT: LEAVE IT -/
set_option maxRecDepth 100000 in
theorem lifted (os : Os) (started : os.Started) (H : Type) (enc : TypeId × Value → H) :
    ReturnsInHanded {} Try.checked os 6 .any (Rows.clusterSyncsSpec.pre6 enc Try.prog Try.f6 Rows.clusterSyncsRow.domain false) (Rows.clusterSyncsSpec.post enc Try.prog Try.f6 false true false false) := by
  refine returnsInHanded_of_change (C := Try.checked) own started (by kernel_rfl) Try.func6
    (ChangeSpec.witness6 (enc := enc) (C := Try.checked) false ⟨#[], #[.slice none 0 0], []⟩ 8 (by kernel_rfl) (by kernel_rfl) (by kernel_rfl) (by kernel_rfl)) ?_
  intro W base args ds gs before hval0 hW hcnd _
  have hval : ∀ (j : Nat) t v, Try.f6.params[j]? = some t → args[j]? = some v → Value.okWide Try.prog W .any base t v := hval0
  have hW' := hW
  obtain ⟨p, q, hA0, hV, rfl, hfz, hnd⟩ := hW
  have hA : DataW.TrodAll enc Try.prog W 0 (fun _ => true) true Try.f6.params.toList args.toList ds p := hA0
  rw [Try.params6] at hA hval
  obtain ⟨v0, vs0, d0, ds0, p0, q0, hargs, rfl, rfl, h0, r0⟩ := trodAll_cons hA
  obtain ⟨rfl, rfl, rfl⟩ := trodAll_nil r0
  obtain rfl : args = #[v0] := by cases args; simp_all
  obtain ⟨rfl, rfl⟩ := trodVars_none hV
  obtain ⟨a0, len0, cap0, rfl⟩ := okWide_slice Try.underlying22 (hval 0 22 v0 rfl rfl)
  have k0 := h0
  have lt0 : ∀ x ∈ p0, x.block < W.heap.size := by obtain ⟨m, hm⟩ := k0; exact DataW.trod_lt m _ _ _ hm
  obtain ⟨z0, w0⟩ : ∃ zs, IsRow .i64 W a0 len0 cap0 zs := by
    obtain ⟨fuel, hf⟩ := h0
    rcases open_ints Try.underlying22 Try.underlying3 (by kernel_rfl) hf with ⟨hcs, _⟩ | ⟨x, l, c, zs, hcs, _, hl, hm, hz, _, hcell, hwz⟩
    · simp [Value.cells] at hcs
      obtain ⟨rfl, rfl, rfl⟩ := hcs
      exact ⟨[], .inl ⟨rfl, rfl, rfl, rfl⟩⟩
    · simp [Value.cells] at hcs
      obtain ⟨rfl, rfl, rfl⟩ := hcs
      exact ⟨zs, .inr ⟨_, rfl, hl, hm, by simpa using hz, hcell, hwz⟩⟩
  clear hA0 hval0
  refine (walk a0 len0 cap0 z0 W w0).mono fun e W' ⟨he, bel⟩ => ?_
  subst he
  exact ⟨_, rfl, _, _, _, [], _, [], hW', trodAll_mk1 (shut_bool Try.underlying4 _), (trodAll_cons_mk (Below.trod laidOut (by kernel_rfl) (of_decide_eq_true (by kernel_rfl)) k0 bel lt0) trodAll_mk0), rfl, bel.frame _, fun h => by cases h⟩

theorem over : Rows.clusterSyncsRow.holds Try.pinned (OpenSpec.ofChange Rows.clusterSyncsSpec) :=
  OpenClaim.holds_of_wide 6 Try.f6 rfl rfl rfl rfl rfl rfl rfl ⟨rfl, rfl, rfl, rfl, rfl⟩ rfl rfl rfl rfl rfl (by kernel_rfl) Try.func6 (by kernel_rfl)
    (of_decide_eq_true (by kernel_rfl)) (by unfold Func.isWrapper; first | (rw [if_pos (by decide +kernel)]; kernel_rfl) | (rw [if_neg (by decide +kernel)]; exact ⟨rfl, rfl⟩))
    (fun os started H enc _ => lifted os started H enc)

/-- ████ THE STATEMENT ████ -/
theorem proved : Rows.ClusterSyncsSaid := over
#print axioms proved
end Go.Proofs.Ytamcjhibdcbdnaa.clusterSyncs
