/-
  The Go function leakresponse/leakresponselaw36.ClusterFence returns true for every list of numbers, and leaves what was there as it was; no conditions.
-/
import Derived.Test.YtamcjhibdcbdnaaCRv
import Derived.Test.YtamcjhibdcbdnaaRows
import Derived.WalkKit
import Derived.ProofKit
import Derived.OpenShut
import Derived.ShutString
import Derived.ChangeOld
import Derived.Below
namespace Go.Proofs.Ytamcjhibdcbdnaa.clusterFence
open Go.ChangeShapes Go.WideShapes Go.ChangeAt Go.RowKit
open Go.ChangeMaps (open_string shut_string)
open Go.Proofs.Ytamcjhibdcbdnaa.Tp
open Go.Proofs.Ytamcjhibdcbdnaa.Cl
set_option linter.unusedVariables false

/-- What holds in the walk of events. -/
structure Sf (m : Nat) (c : Cl) : Prop where
  ok : Ok m c
  fn : Cl.Fn c
  dead : ∀ i, i < c.r.length → acc c i 1 = false
theorem sf_ap {m : Nat} {c : Cl} {x : Ev} (h : Sf m c) (hg : Cl.Good c x) (hb : x.k = 1 → has x.b 1 = false) (hf : fitB c x = true) : Sf (m + 1) (ap c x) :=
  ⟨ok_ap h.ok hg hf, fn_ap h.fn hg hb, fun i hi => acc_ap h.ok h.fn h.dead hg i (by have := ap_r hg; omega)⟩
theorem Sf.mono {m n : Nat} {c : Cl} (h : Sf m c) (hm : m ≤ n) : Sf n c := ⟨h.ok.mono hm, h.fn, h.dead⟩
theorem Sf.dies {m : Nat} {c : Cl} (h : Sf m c) : Cl.dead c 1 = true := (dead_iff c 1).2 ⟨h.fn.n, h.dead⟩
theorem sync_acc {D : Cl} {k : Nat} (hf : Cl.Fn D) (hk : k < D.r.length) (h : ∀ j, j < k → acc D j 1 = false) : ∀ j, j < k + 1 → acc (sy1 D k) j 1 = false := by
  intro j hj
  by_cases e : j = k
  · subst e
    rw [acc_sync hk]
    exact hf.n
  · have h2 := h j (by omega)
    show ((rd (D.r.set k (D.s.length - 1, true)) j).2 && has (D.s.getD (rd (D.r.set k (D.s.length - 1, true)) j).1 0) 1) = false
    rw [rd_set _ _ _ _ hk, if_neg e]
    exact h2

set_option maxRecDepth 100000 in
set_option maxHeartbeats 4000000 in
theorem walk (a0 : Option Addr) (len0 cap0 : Nat) (z0 : List Int) (w : World) (w0 : IsRow .i64 w a0 len0 cap0 z0) :
    Calls Try.prog 4 #[.slice a0 len0 cap0] w fun e w' => e = .returned (.bool true) ∧ Below w.heap.size w w' := by
  have hm := w0.at_.1
  unfold maxLen at hm
  have HTP := Lib.hid (tape_new w0)
  have HBX := Lib.hid (box_below w (.cells #[.slice a0 len0 cap0, .int .i64 0] 32))
  clear w0
  by_cases hlen : 300 < len0
  · have hl0 : (300 : Int) < (len0 : Int) := by omega
    go_enter Try.func4, Try.ntmps4
    go_wp2_with (go_at_call 13; refine (awake36 _).mono ?_; rintro e w1 ⟨rfl, hb1⟩; have HB1 := Lib.hid hb1; clear hb1)
    go_ret
    exact ⟨rfl, HB1.out⟩
  · have hl0 : (len0 : Int) ≤ (300 : Int) := by omega
    go_enter Try.func4, Try.ntmps4
    go_wp2_with fail
    refine (cluster_any w.heap.size _ HTP.out (by simp)).mono ?_
    rintro e w1 ⟨c, v, rfl, hok, hcl, hg1, ht1⟩
    have hb1 : Below w.heap.size w w1 := HBX.out.grown hg1 HBX.out.size (fun k e => by cases e; exact Nat.le_refl _)
    have hs1 := hg1.size
    simp at hs1
    have hcl0 := hcl.base (show w.heap.size + 1 ≤ (w.alloc (.cells #[.slice a0 len0 cap0, .int .i64 0] 32)).heap.size + 1 by simp)
    have hnq := NQ.of_size hcl (Nat.le_refl w1.heap.size)
    have HQ := Lib.hid (heap_alloc_new w1 (.cells (cv c v) 25))
    have HC := Lib.hid ((hcl0.below (box_below w1 (.cells (cv c v) 25))).fence true)
    have HNQ := Lib.hid (show NQ w1.heap.size ⟨true, c.s, c.r, c.p⟩ v from ⟨hnq.n1, hnq.n2, hnq.n3⟩)
    have HB1 := Lib.hid (hb1.trans ((box_below w1 (.cells (cv c v) 25)).mono hb1.size))
    have HT1 := Lib.hid (tape_new2 ht1 (.cells (cv c v) 25))
    have hok0 : Ok 12 ⟨true, c.s, c.r, c.p⟩ := ⟨hok.s1, hok.s2, hok.r1, hok.r2, hok.p2, hok.sb, hok.rb, hok.pb⟩
    have HOK := Lib.hid hok0
    clear hcl hcl0 hnq hg1 ht1 hb1 hok hok0
    have hW1q := HQ.out
    have f0 : ∀ j, (w1.alloc (.cells (cv c v) 25)).frozen? ⟨w1.heap.size, j, none⟩ = false := fun j => frozen_of_row _ _ _ _ _ hW1q
    generalize hW1 : w1.alloc (.cells (cv c v) 25) = W1 at *
    have HW1 := Lib.hid hW1
    clear hW1
    obtain ⟨W2, hW2⟩ : ∃ W2, W1.setCell ⟨w1.heap.size, 0, none⟩ (.bool true) = W2 := ⟨_, rfl⟩
    have e2 : W2 = W1.setRow w1.heap.size (cv ⟨true, c.s, c.r, c.p⟩ v) := by rw [← hW2]; exact setCell_eq_setRow _ _ _ _ _ _ _ hW1q
    have QA := Lib.hid (show W2.heap[w1.heap.size]? = some (.cells (cv ⟨true, c.s, c.r, c.p⟩ v) 25 (0, 0)) by rw [e2]; exact setRow_heap _ _ _ _ _ _ hW1q)
    have CA := Lib.hid (show CL W2 (w.heap.size + 1) ⟨true, c.s, c.r, c.p⟩ v by rw [e2]; exact HC.out.setq HNQ.out _)
    have BA := Lib.hid (show Below w.heap.size w W2 by rw [e2]; exact below_setRow HB1.out (by omega) _)
    have TA := Lib.hid (show TapeOk W2 w.heap.size by rw [e2]; exact tape_set HT1.out (by omega) _)
    clear e2 hW1q
    have hcf : (⟨true, c.s, c.r, c.p⟩ : Cl).f = true := rfl
    have k0 := (cvCells _ _ _ _ _ _ HQ.out).1
    generalize (⟨true, c.s, c.r, c.p⟩ : Cl) = C at *
    obtain ⟨c0, c1, c2, c3⟩ := cvCells _ _ _ _ _ _ QA.out
    have hok := HOK.out
    have s1 := hok.s1
    have s2 := hok.s2
    have r2 := hok.r2
    clear hok
    have HCF := Lib.hid hcf
    clear hcf
    have hTQ : w.heap.size < w1.heap.size := by omega
    go_wp2_with (with_reducible (show wpList _ _ _ (⟨none, .store 25 (.tmp 4) (.tmp 21), _, _, _, _⟩ :: _) _ _); refine wpList_store_row (o := ⟨none, .store 25 (.tmp 4) (.tmp 21), _, _, _, _⟩) rfl 25 (.tmp 4) (.tmp 21) rfl w1.heap.size (cv c v) rfl rfl 25 zC (heap_alloc_new _ _) (info25 _ _) rfl (cv_one _ _) ?_; rw [new_set, HW1.out])
    refine (pub_p (b := 2) CA.out HOK.out (by omega) (by omega)).mono ?_
    rintro e w7 ⟨v7, rfl, hc7, hb7⟩
    have Q7 := Lib.hid ((hb7.block w1.heap.size (row_lt QA.out)).trans QA.out)
    have QW := Lib.hid (setRow_heap _ _ _ (cv ⟨C.f, C.s ++ [2], C.r, C.p⟩ v7) _ _ Q7.out)
    have lq := row_lt QA.out
    have HBW := Lib.hid (below_setRow (BA.out.trans (hb7.mono BA.out.size)) (show w.heap.size ≤ w1.heap.size by omega) (cv ⟨C.f, C.s ++ [2], C.r, C.p⟩ v7))
    have hcw := hc7.set lq (cv ⟨C.f, C.s ++ [2], C.r, C.p⟩ v7)
    have HCW := Lib.hid (hcw.base (show w.heap.size + 1 ≤ W2.heap.size by omega))
    have HNW := Lib.hid (NQ.of_base hcw lq)
    have HTW := Lib.hid (tape_set (tape_below TA.out hb7) (show w.heap.size < w1.heap.size by omega) (cv ⟨C.f, C.s ++ [2], C.r, C.p⟩ v7))
    have hokw : Ok 13 ⟨C.f, C.s ++ [2], C.r, C.p⟩ := ok_pub HOK.out (b := 2) (by omega)
    have HOKW := Lib.hid hokw
    have HFN := Lib.hid (fn_pub HCF.out (b := 2) (by decide))
    have HR := Lib.hid (show (⟨C.f, C.s ++ [2], C.r, C.p⟩ : Cl).r.length = C.r.length from rfl)
    clear hc7 hb7 hcw hokw c0 c1 c2 c3 lq
    generalize hWW : w7.setRow w1.heap.size (cv ⟨C.f, C.s ++ [2], C.r, C.p⟩ v7) = W at *
    have HWW := Lib.hid hWW
    clear hWW
    obtain ⟨c0, c1, c2, c3⟩ := cvCells _ _ _ _ _ _ QW.out
    go_wp2_with (with_reducible (show wpList _ _ _ (⟨none, .store 25 (.tmp 4) (.tmp 27), _, _, _, _⟩ :: _) _ _); refine wpList_store_row (o := ⟨none, .store 25 (.tmp 4) (.tmp 27), _, _, _, _⟩) rfl 25 (.tmp 4) (.tmp 27) rfl w1.heap.size (cv ⟨C.f, C.s ++ [2], C.r, C.p⟩ v7) rfl rfl 25 (cv C v) Q7.out (info25 _ _) rfl (cv_one _ _) ?_; rw [HWW.out])
    generalize hCC : (⟨C.f, C.s ++ [2], C.r, C.p⟩ : Cl) = D0 at *
    clear c0 c1 c2 c3
    clear HQ HB1 HT1 HW1 BA TA HNQ HOK HC QA CA HCF s1 s2
    generalize w1.heap.size = Qb at *
    go_loopw [34, 5] (fun ii e5 wr => e5 = .int .i64 0 ∧ ∃ k : Nat, k ≤ C.r.length ∧ ii = .int .i64 k ∧ ∃ D u, D.r.length = C.r.length ∧ Cl.Fn D ∧ Ok 13 D ∧ (∀ j, j < k → acc D j 1 = false) ∧ wr.heap[Qb]? = some (.cells (cv D u) 25 (0, 0)) ∧ CL wr (w.heap.size + 1) D u ∧ NQ Qb D u ∧ Below w.heap.size w wr ∧ TapeOk wr w.heap.size) (fun ii _ _ => C.r.length - (intOf ii).toNat)
    case atStart => exact ⟨rfl, 0, by omega, rfl, D0, v7, (by first | rfl | (rw [← hCC])), HFN.out, HOKW.out, (fun j h => absurd h (by omega)), QW.out, HCW.out, HNW.out, HBW.out, HTW.out⟩
    case round =>
      clear QW HCW HBW HTW HNW HOKW HFN
      obtain ⟨rfl, k, hk, rfl, D, u, hdr, hfn, hok, hac, hq, hcl, hnq, hbl, htp⟩ := hrel
      have HQK := Lib.hid hq
      have HCK := Lib.hid hcl
      have HNK := Lib.hid hnq
      have HBK := Lib.hid hbl
      have HTK := Lib.hid htp
      have HFK := Lib.hid hfn
      have HOK := Lib.hid hok
      have HDR := Lib.hid hdr
      have HAC := Lib.hid hac
      have lq := row_lt hq
      clear hq hcl hnq hbl htp hfn hok hdr hac
      by_cases hlt : k < C.r.length
      · have hkD : k < D.r.length := by rw [HDR.out]; exact hlt
        have i0 : (0 : Int) ≤ (k : Int) := Int.natCast_nonneg k
        have i1 : (k : Int) < (C.r.length : Int) := Int.ofNat_lt.2 hlt
        have HKD := Lib.hid hkD
        clear hkD
        obtain ⟨c0, c1, c2, c3⟩ := cvCells _ _ _ _ _ _ HQK.out
        go_wp2_with fail
        refine (sync_p HCK.out HOK.out HKD.out (by omega)).mono ?_
        rintro e w7 ⟨v8, rfl, hc7, hb7⟩
        have l5 := row_lt HQK.out
        have Q7 := Lib.hid ((hb7.block Qb l5).trans HQK.out)
        have HB7 := Lib.hid (below_setRow (HBK.out.trans (hb7.mono HBK.out.size)) (show w.heap.size ≤ Qb by omega) (cv (sy1 D k) v8))
        have hc8 := hc7.set l5 (cv (sy1 D k) v8)
        have HC7 := Lib.hid (hc8.base (show w.heap.size + 1 ≤ wr.heap.size by omega))
        have HN7 := Lib.hid (NQ.of_base hc8 l5)
        have HQ7 := Lib.hid (setRow_heap _ _ _ (cv (sy1 D k) v8) _ _ Q7.out)
        have HT7 := Lib.hid (tape_set (tape_below HTK.out hb7) (show w.heap.size < Qb from hTQ) (cv (sy1 D k) v8))
        clear hb7 hc7 hc8 c0 c1 c2 c3
        go_wp2_with (with_reducible (show wpList _ _ _ (⟨none, .store 25 (.tmp 4) (.tmp 42), _, _, _, _⟩ :: _) _ _); refine wpList_store_row (o := ⟨none, .store 25 (.tmp 4) (.tmp 42), _, _, _, _⟩) rfl 25 (.tmp 4) (.tmp 42) rfl Qb (cv (sy1 D k) v8) rfl rfl 25 (cv D u) Q7.out (info25 _ _) rfl (cv_one _ _) ?_)
        exact ⟨⟨rfl, k + 1, by omega, by go_num, sy1 D k, v8, by rw [← HDR.out]; exact List.length_set, fn_sync HFK.out k, ok_sync HOK.out HKD.out, sync_acc HFK.out HKD.out HAC.out, HQ7.out, HC7.out, HN7.out, HB7.out, HT7.out⟩, by simp [intOf]; omega⟩
      · obtain rfl : k = C.r.length := by omega
        obtain ⟨c0, c1, c2, c3⟩ := cvCells _ _ _ _ _ _ HQK.out
        have HST := Lib.hid (show Sf 16 D from ⟨HOK.out.mono (by omega), HFK.out, fun i hi => HAC.out i (by rw [← HDR.out]; exact hi)⟩)
        go_wp2_with fail
        refine (dead_1 HCK.out HST.out.ok (by omega)).mono ?_
        rintro e w8 ⟨rfl, hb8⟩
        rw [HST.out.dies]
        have Q8 := Lib.hid ((hb8.block Qb lq).trans HQK.out)
        have HB8 := Lib.hid (HBK.out.trans (hb8.mono HBK.out.size))
        have HC8 := Lib.hid (HCK.out.below hb8)
        have HT8 := Lib.hid (tape_below HTK.out hb8)
        clear hb8 c0 c1 c2 c3
        obtain ⟨c0, c1, c2, c3⟩ := cvCells _ _ _ _ _ _ Q8.out
        have hrv := rev_fence 16 _ 1 D u w8 HC8.out HST.out.ok (by omega) (.inl rfl) HST.out.dies HST.out.fn.f
        have e1 : ((1 : Nat) : Int) = 1 := rfl
        rw [e1, cv] at hrv
        have HRV := Lib.hid hrv
        clear hrv e1
        go_wp2_with fail
        refine HRV.out.mono ?_
        rintro e w9 ⟨rfl, hb9⟩
        have Q9 := Lib.hid ((hb9.block Qb (row_lt Q8.out)).trans Q8.out)
        have HB9 := Lib.hid (HB8.out.trans (hb9.mono HB8.out.size))
        have HC9 := Lib.hid (HC8.out.below hb9)
        have HT9 := Lib.hid (tape_below HT8.out hb9)
        clear hb9 c0 c1 c2 c3 HRV
        go_wp2_with fail
        clear Q8 HB8 HC8 HT8 HDR
        go_loopw [9] (fun ii wr => ∃ k : Nat, k ≤ 16 ∧ ii = .int .i64 k ∧ ∃ E u', Sf (16 + k) E ∧ wr.heap[Qb]? = some (.cells (cv E u') 25 (0, 0)) ∧ CL wr (w.heap.size + 1) E u' ∧ NQ Qb E u' ∧ Below w.heap.size w wr ∧ TapeOk wr w.heap.size) (fun ii _ => 16 - (intOf ii).toNat)
        case atStart => exact ⟨0, by omega, rfl, D, u, HST.out, Q9.out, HC9.out, HNK.out, HB9.out, HT9.out⟩
        case round =>
          clear HST Q9 HC9 HB9 HT9 HCK HQK HNK HBK HTK HFK HOK HAC
          obtain ⟨k, hk, rfl, E, u', hst, hq, hcl, hnq, hbl, htp⟩ := hrel
          have HQK := Lib.hid hq
          have HCK := Lib.hid hcl
          have HNK := Lib.hid hnq
          have HBK := Lib.hid hbl
          have HTK := Lib.hid htp
          have HST := Lib.hid hst
          have le := row_lt hq
          clear hq hcl hnq hbl htp hst
          by_cases hlt : k < 16
          · have i1 : (k : Int) < 16 := by omega
            have hne : ((E.r.length : Int) == 0) = false := beq_eq_false_iff_ne.2 (by have := HST.out.ok.r1; omega)
            obtain ⟨c0, c1, c2, c3⟩ := cvCells _ _ _ _ _ _ HQK.out
            go_wp2_with fail
            refine (event_x HTK.out (by omega) HST.out.ok (by omega)).mono ?_
            rintro e w10 ⟨x, hgx, rfl, hg10, ht10⟩
            have Q10 := Lib.hid ((hg10.block Qb le (by simp; omega)).trans HQK.out)
            have HC10 := Lib.hid (HCK.out.grown hg10 (fun g e => by cases e; exact Nat.lt_succ_self _))
            have HB10 := Lib.hid (HBK.out.grown hg10 HBK.out.size (fun k e => by cases e; exact Nat.le_refl _))
            have HT10 := Lib.hid ht10
            have l10 : Qb < w10.heap.size := row_lt Q10.out
            clear hg10 ht10 c0 c1 c2 c3 hne
            obtain ⟨kk, ki, kq, kb⟩ := x
            have hb3 : kb ≤ 3 := by rcases hgx with ⟨-, -, -, h⟩ | ⟨-, -, -, h⟩ | ⟨-, -, -, h⟩ | ⟨-, -, -, h⟩ <;> simp only at h <;> omega
            have hcut := good_cut hgx
            have EY := heap_alloc_new w10 (.cells (ec kk ki kq kb) 27)
            have ED := Lib.hid EY
            have hbE : Below w10.heap.size w10 (w10.alloc (.cells (ec kk ki kq kb) 27)) := box_below _ _
            have Q11 := Lib.hid ((hbE.block Qb l10).trans Q10.out)
            have HC11 := Lib.hid (HC10.out.below hbE)
            have HB11 := Lib.hid (HB10.out.trans (hbE.mono HB10.out.size))
            have HT11 := Lib.hid (tape_below HT10.out hbE)
            have l11 := row_lt EY
            clear hbE EY
            generalize hW11 : w10.alloc (.cells (ec kk ki kq kb) 27) = W11 at *
            have HW11 := Lib.hid hW11
            clear hW11
            by_cases hk1 : kk = 1
            · subst hk1
              have hcut' : Cl.Good E ⟨1, ki, kq, kb / 2 * 2⟩ ∧ has (kb / 2 * 2) 1 = false := ⟨hcut.1, hcut.2 rfl⟩
              have hba := bits_cut kb hb3
              obtain ⟨y0, y1, y2, y3⟩ := ecCells ED.out
              have fy : ∀ j, W11.frozen? ⟨w10.heap.size, j, none⟩ = false := fun j => frozen_of_row _ _ _ _ _ ED.out
              clear hcut hgx
              generalize kb / 2 * 2 = yb at *
              obtain ⟨W12, hW12⟩ : ∃ W12, W11.setCell ⟨w10.heap.size, 3, none⟩ (.int .i64 (yb : Int)) = W12 := ⟨_, rfl⟩
              have e12 : W12 = W11.setRow w10.heap.size (ec (1 : Nat) ki kq yb) := by rw [← hW12]; exact setCell_eq_setRow _ _ _ _ _ _ _ ED.out
              have E12 := Lib.hid (show W12.heap[w10.heap.size]? = some (.cells (ec (1 : Nat) ki kq yb) 27 (0, 0)) by rw [e12]; exact setRow_heap _ _ _ _ _ _ ED.out)
              have Q12 := Lib.hid (show W12.heap[Qb]? = some (.cells (cv E u') 25 (0, 0)) by rw [e12]; exact (setRow_other _ _ _ _ (by omega)).trans Q11.out)
              have HC12 := Lib.hid (show CL W12 (w.heap.size + 1) E u' by rw [e12]; exact HC11.out.setq (NQ.of_size HC10.out (Nat.le_refl _)) _)
              have HB12 := Lib.hid (show Below w.heap.size w W12 by rw [e12]; exact below_setRow HB11.out (by omega) _)
              have HT12 := Lib.hid (show TapeOk W12 w.heap.size by rw [e12]; exact tape_set HT11.out (by omega) _)
              clear e12
              obtain ⟨x0, x1, x2, x3⟩ := ecCells E12.out
              obtain ⟨c0, c1, c2, c3⟩ := cvCells _ _ _ _ _ _ Q12.out
              have HG := Lib.hid hcut'
              clear hcut'
              go_wp2_with (with_reducible (show wpList _ _ _ (⟨none, .store 27 (.tmp 10) (.tmp 66), _, _, _, _⟩ :: _) _ _); refine wpList_store_row (o := ⟨none, .store 27 (.tmp 10) (.tmp 66), _, _, _, _⟩) rfl 27 (.tmp 10) (.tmp 66) rfl w10.heap.size (ec (1 : Nat) ki kq kb) rfl rfl 27 (ec 0 0 0 0) (heap_alloc_new _ _) (info27 _ _ _ _) rfl (ec_one _ _ _ _) ?_; rw [new_set, HW11.out])
              clear y0 y1 y2 y3 fy x0 x1 x2 x3 hba c0 c1 c2 c3 hW12
              refine (prodapply_x (x := ⟨1, ki, kq, yb⟩) HC12.out HST.out.ok HG.out.1 (by omega)).mono ?_
              have HGG := Lib.hid (show Cl.Good E ⟨1, ki, kq, yb⟩ ∧ ((⟨1, ki, kq, yb⟩ : Ev).k = 1 → has (⟨1, ki, kq, yb⟩ : Ev).b 1 = false) from ⟨HG.out.1, fun _ => HG.out.2⟩)
              clear Q10 HC10 HB10 HT10 HC11 HB11 HT11 Q11 HG l11 E12
              generalize (⟨1, ki, kq, yb⟩ : Ev) = y at *
              have l12 := row_lt Q12.out
              rintro e w13 (⟨hfit, v', rfl, hc13, hb13⟩ | ⟨hfit, rfl, hb13⟩)
              · have HST' := Lib.hid (sf_ap HST.out HGG.out.1 HGG.out.2 hfit)
                have hbx := box_below w13 (.cells (cv (ap E y) v') 25)
                have hbb := hb13.trans (hbx.mono hb13.size)
                have Q14 := Lib.hid ((hbb.block Qb l12).trans Q12.out)
                have N14 := Lib.hid (heap_alloc_new w13 (.cells (cv (ap E y) v') 25))
                have HW14 := Lib.hid (rfl : w13.alloc (.cells (cv (ap E y) v') 25) = w13.alloc (.cells (cv (ap E y) v') 25))
                have hc15 := (hc13.below hbx).set l12 (cv (ap E y) v')
                have HC15 := Lib.hid (hc15.base (show w.heap.size + 1 ≤ W12.heap.size by omega))
                have HN15 := Lib.hid (NQ.of_base hc15 l12)
                have HB15 := Lib.hid (below_setRow (HB12.out.trans (hbb.mono HB12.out.size)) (show w.heap.size ≤ Qb by omega) (cv (ap E y) v'))
                have HT15 := Lib.hid (tape_set (tape_below HT12.out hbb) hTQ (cv (ap E y) v'))
                have Q15 := Lib.hid (setRow_heap _ _ _ (cv (ap E y) v') _ _ Q14.out)
                clear hbx hbb hc13 hc15 hb13 hfit Q12 HC12 HB12 HT12
                generalize ap E y = E2 at *
                generalize hW14 : w13.alloc (.cells (cv E2 v') 25) = W14 at *
                have HX14 := Lib.hid hW14
                clear hW14 HW14
                generalize hW15 : W14.setRow Qb (cv E2 v') = W15 at *
                have HX15 := Lib.hid hW15
                clear hW15
                obtain ⟨c0, c1, c2, c3⟩ := cvCells _ _ _ _ _ _ Q15.out
                obtain ⟨d0, d1, d2, d3⟩ := cvCells _ _ _ _ _ _ N14.out
                go_wp2_with (first
                  | (with_reducible (show wpList _ _ _ (⟨none, .store 25 (.tmp 11) (.tmp 78), _, _, _, _⟩ :: _) _ _); refine wpList_store_row (o := ⟨none, .store 25 (.tmp 11) (.tmp 78), _, _, _, _⟩) rfl 25 (.tmp 11) (.tmp 78) rfl w13.heap.size (cv E2 v') rfl rfl 25 zC (heap_alloc_new _ _) (info25 _ _) rfl (cv_one _ _) ?_; rw [new_set, HX14.out])
                  | (with_reducible (show wpList _ _ _ (⟨none, .store 25 (.tmp 4) (.tmp 82), _, _, _, _⟩ :: _) _ _); refine wpList_store_row (o := ⟨none, .store 25 (.tmp 4) (.tmp 82), _, _, _, _⟩) rfl 25 (.tmp 4) (.tmp 82) rfl Qb (cv E2 v') rfl rfl 25 (cv E u') Q14.out (info25 _ _) rfl (cv_one _ _) ?_; rw [HX15.out]))
                refine (dead_1 HC15.out HST'.out.ok (by omega)).mono ?_
                rintro e w16 ⟨rfl, hb16⟩
                rw [HST'.out.dies]
                have Q16 := Lib.hid ((hb16.block Qb (row_lt Q15.out)).trans Q15.out)
                have HB16 := Lib.hid (HB15.out.trans (hb16.mono HB15.out.size))
                have HC16 := Lib.hid (HC15.out.below hb16)
                have HT16 := Lib.hid (tape_below HT15.out hb16)
                clear hb16 c0 c1 c2 c3 d0 d1 d2 d3
                go_wp2_with fail
                exact ⟨⟨k + 1, by omega, by go_num, E2, v', HST'.out.mono (by omega), Q16.out, HC16.out, HN15.out, HB16.out, HT16.out⟩, by simp [intOf]; omega⟩
              · have hbx := box_below w13 (.cells zC 25)
                have hbb := hb13.trans (hbx.mono hb13.size)
                have Q15 := Lib.hid ((hbb.block Qb l12).trans Q12.out)
                have HC15 := Lib.hid (HC12.out.below hbb)
                have HB15 := Lib.hid (HB12.out.trans (hbb.mono HB12.out.size))
                have HT15 := Lib.hid (tape_below HT12.out hbb)
                clear hbx hbb hb13 hfit Q12 HC12 HB12 HT12
                generalize hW15 : w13.alloc (.cells zC 25) = W15 at *
                have HX15 := Lib.hid hW15
                clear hW15
                go_wp2_with (with_reducible (show wpList _ _ _ (⟨none, .store 25 (.tmp 11) (.tmp 78), _, _, _, _⟩ :: _) _ _); refine wpList_store_row (o := ⟨none, .store 25 (.tmp 11) (.tmp 78), _, _, _, _⟩) rfl 25 (.tmp 11) (.tmp 78) rfl w13.heap.size zC rfl rfl 25 zC (heap_alloc_new _ _) infoz rfl zc_one ?_; rw [new_set, HX15.out])
                exact ⟨⟨k + 1, by omega, by go_num, E, u', HST.out.mono (by omega), Q15.out, HC15.out, HNK.out, HB15.out, HT15.out⟩, by simp [intOf]; omega⟩
            · have HGX := Lib.hid hgx
              have HK1 := Lib.hid hk1
              have hk2 : (kk : Int) ≠ 1 := by omega
              have hk3 : ((kk : Int) == 1) = false := by simpa using hk2
              obtain ⟨y0, y1, y2, y3⟩ := ecCells ED.out
              have Q12 := Q11
              have HC12 := HC11
              have HB12 := HB11
              have HT12 := HT11
              obtain ⟨c0, c1, c2, c3⟩ := cvCells _ _ _ _ _ _ Q12.out
              clear hcut hgx
              go_wp2_with (with_reducible (show wpList _ _ _ (⟨none, .store 27 (.tmp 10) (.tmp 66), _, _, _, _⟩ :: _) _ _); refine wpList_store_row (o := ⟨none, .store 27 (.tmp 10) (.tmp 66), _, _, _, _⟩) rfl 27 (.tmp 10) (.tmp 66) rfl w10.heap.size (ec kk ki kq kb) rfl rfl 27 (ec 0 0 0 0) (heap_alloc_new _ _) (info27 _ _ _ _) rfl (ec_one _ _ _ _) ?_; rw [new_set, HW11.out])
              clear y0 y1 y2 y3 c0 c1 c2 c3
              have HGG := Lib.hid (show Cl.Good E ⟨kk, ki, kq, kb⟩ ∧ ((⟨kk, ki, kq, kb⟩ : Ev).k = 1 → has (⟨kk, ki, kq, kb⟩ : Ev).b 1 = false) from ⟨HGX.out, fun h => absurd h HK1.out⟩)
              clear HGX HK1
              refine (prodapply_x (x := ⟨kk, ki, kq, kb⟩) HC12.out HST.out.ok HGG.out.1 (by omega)).mono ?_
              clear Q10 HC10 HB10 HT10 HC11 HB11 HT11 Q11 l11
              generalize hy : (⟨kk, ki, kq, kb⟩ : Ev) = y at *
              generalize W11 = W12 at *
              have l12 := row_lt Q12.out
              rintro e w13 (⟨hfit, v', rfl, hc13, hb13⟩ | ⟨hfit, rfl, hb13⟩)
              · have HST' := Lib.hid (sf_ap HST.out HGG.out.1 HGG.out.2 hfit)
                have hbx := box_below w13 (.cells (cv (ap E y) v') 25)
                have hbb := hb13.trans (hbx.mono hb13.size)
                have Q14 := Lib.hid ((hbb.block Qb l12).trans Q12.out)
                have N14 := Lib.hid (heap_alloc_new w13 (.cells (cv (ap E y) v') 25))
                have HW14 := Lib.hid (rfl : w13.alloc (.cells (cv (ap E y) v') 25) = w13.alloc (.cells (cv (ap E y) v') 25))
                have hc15 := (hc13.below hbx).set l12 (cv (ap E y) v')
                have HC15 := Lib.hid (hc15.base (show w.heap.size + 1 ≤ W12.heap.size by omega))
                have HN15 := Lib.hid (NQ.of_base hc15 l12)
                have HB15 := Lib.hid (below_setRow (HB12.out.trans (hbb.mono HB12.out.size)) (show w.heap.size ≤ Qb by omega) (cv (ap E y) v'))
                have HT15 := Lib.hid (tape_set (tape_below HT12.out hbb) hTQ (cv (ap E y) v'))
                have Q15 := Lib.hid (setRow_heap _ _ _ (cv (ap E y) v') _ _ Q14.out)
                clear hbx hbb hc13 hc15 hb13 hfit Q12 HC12 HB12 HT12
                generalize ap E y = E2 at *
                generalize hW14 : w13.alloc (.cells (cv E2 v') 25) = W14 at *
                have HX14 := Lib.hid hW14
                clear hW14 HW14
                generalize hW15 : W14.setRow Qb (cv E2 v') = W15 at *
                have HX15 := Lib.hid hW15
                clear hW15
                obtain ⟨c0, c1, c2, c3⟩ := cvCells _ _ _ _ _ _ Q15.out
                obtain ⟨d0, d1, d2, d3⟩ := cvCells _ _ _ _ _ _ N14.out
                go_wp2_with (first
                  | (with_reducible (show wpList _ _ _ (⟨none, .store 25 (.tmp 11) (.tmp 78), _, _, _, _⟩ :: _) _ _); refine wpList_store_row (o := ⟨none, .store 25 (.tmp 11) (.tmp 78), _, _, _, _⟩) rfl 25 (.tmp 11) (.tmp 78) rfl w13.heap.size (cv E2 v') rfl rfl 25 zC (heap_alloc_new _ _) (info25 _ _) rfl (cv_one _ _) ?_; rw [new_set, HX14.out])
                  | (with_reducible (show wpList _ _ _ (⟨none, .store 25 (.tmp 4) (.tmp 82), _, _, _, _⟩ :: _) _ _); refine wpList_store_row (o := ⟨none, .store 25 (.tmp 4) (.tmp 82), _, _, _, _⟩) rfl 25 (.tmp 4) (.tmp 82) rfl Qb (cv E2 v') rfl rfl 25 (cv E u') Q14.out (info25 _ _) rfl (cv_one _ _) ?_; rw [HX15.out]))
                refine (dead_1 HC15.out HST'.out.ok (by omega)).mono ?_
                rintro e w16 ⟨rfl, hb16⟩
                rw [HST'.out.dies]
                have Q16 := Lib.hid ((hb16.block Qb (row_lt Q15.out)).trans Q15.out)
                have HB16 := Lib.hid (HB15.out.trans (hb16.mono HB15.out.size))
                have HC16 := Lib.hid (HC15.out.below hb16)
                have HT16 := Lib.hid (tape_below HT15.out hb16)
                clear hb16 c0 c1 c2 c3 d0 d1 d2 d3
                go_wp2_with fail
                exact ⟨⟨k + 1, by omega, by go_num, E2, v', HST'.out.mono (by omega), Q16.out, HC16.out, HN15.out, HB16.out, HT16.out⟩, by simp [intOf]; omega⟩
              · have hbx := box_below w13 (.cells zC 25)
                have hbb := hb13.trans (hbx.mono hb13.size)
                have Q15 := Lib.hid ((hbb.block Qb l12).trans Q12.out)
                have HC15 := Lib.hid (HC12.out.below hbb)
                have HB15 := Lib.hid (HB12.out.trans (hbb.mono HB12.out.size))
                have HT15 := Lib.hid (tape_below HT12.out hbb)
                clear hbx hbb hb13 hfit Q12 HC12 HB12 HT12
                generalize hW15 : w13.alloc (.cells zC 25) = W15 at *
                have HX15 := Lib.hid hW15
                clear hW15
                go_wp2_with (with_reducible (show wpList _ _ _ (⟨none, .store 25 (.tmp 11) (.tmp 78), _, _, _, _⟩ :: _) _ _); refine wpList_store_row (o := ⟨none, .store 25 (.tmp 11) (.tmp 78), _, _, _, _⟩) rfl 25 (.tmp 11) (.tmp 78) rfl w13.heap.size zC rfl rfl 25 zC (heap_alloc_new _ _) infoz rfl zc_one ?_; rw [new_set, HX15.out])
                exact ⟨⟨k + 1, by omega, by go_num, E, u', HST.out.mono (by omega), Q15.out, HC15.out, HNK.out, HB15.out, HT15.out⟩, by simp [intOf]; omega⟩
          · obtain rfl : k = 16 := by omega
            go_wp2_with fail
            refine (awake36 _).mono ?_
            rintro e w11 ⟨rfl, hb11⟩
            have HB11 := Lib.hid (HBK.out.trans (hb11.mono HBK.out.size))
            clear hb11
            go_wp2_with fail
            go_ret
            exact ⟨rfl, HB11.out⟩

/-! ### THE ROW's STEP: WRITTEN OUT: LEAVE IT -/
set_option maxRecDepth 100000 in
theorem lifted (os : Os) (started : os.Started) (H : Type) (enc : TypeId × Value → H) :
    ReturnsInHanded {} Try.checked os 4 .any (Rows.clusterFenceSpec.pre6 enc Try.prog Try.f4 Rows.clusterFenceRow.domain false) (Rows.clusterFenceSpec.post enc Try.prog Try.f4 false true false false) := by
  refine returnsInHanded_of_change (C := Try.checked) own started (by kernel_rfl) Try.func4
    (ChangeSpec.witness6 (enc := enc) (C := Try.checked) false ⟨#[], #[.slice none 0 0], []⟩ 8 (by kernel_rfl) (by kernel_rfl) (by kernel_rfl) (by kernel_rfl)) ?_
  intro W base args ds gs before hval0 hW hcnd _
  have hval : ∀ (j : Nat) t v, Try.f4.params[j]? = some t → args[j]? = some v → Value.okWide Try.prog W .any base t v := hval0
  have hW' := hW
  obtain ⟨p, q, hA0, hV, rfl, hfz, hnd⟩ := hW
  have hA : DataW.TrodAll enc Try.prog W 0 (fun _ => true) true Try.f4.params.toList args.toList ds p := hA0
  rw [Try.params4] at hA hval
  obtain ⟨v0, vs0, d0, ds0, p0, q0, hargs, rfl, rfl, h0, r0⟩ := trodAll_cons hA
  obtain ⟨rfl, rfl, rfl⟩ := trodAll_nil r0
  obtain rfl : args = #[v0] := by cases args; simp_all
  obtain ⟨rfl, rfl⟩ := trodVars_none hV
  obtain ⟨a0, len0, cap0, rfl⟩ := okWide_slice Try.underlying22 (hval 0 22 v0 rfl rfl)
  have k0 := h0
  have lt0 : ∀ x ∈ p0, x.block < W.heap.size := by obtain ⟨m, hm⟩ := k0; exact DataW.trod_lt m _ _ _ hm
  obtain ⟨z0, w0⟩ : ∃ zs, IsRow .i64 W a0 len0 cap0 zs := by
    obtain ⟨fuel, hf⟩ := h0
    rcases open_ints Try.underlying22 Try.underlying3 (by kernel_rfl) hf with ⟨hcs, _⟩ | ⟨x, l, c, zs, hcs, _, hl, hm, hz, _, hcell, hwz⟩
    · simp [Value.cells] at hcs
      obtain ⟨rfl, rfl, rfl⟩ := hcs
      exact ⟨[], .inl ⟨rfl, rfl, rfl, rfl⟩⟩
    · simp [Value.cells] at hcs
      obtain ⟨rfl, rfl, rfl⟩ := hcs
      exact ⟨zs, .inr ⟨_, rfl, hl, hm, by simpa using hz, hcell, hwz⟩⟩
  clear hA0 hval0
  refine (walk a0 len0 cap0 z0 W w0).mono fun e W' ⟨he, bel⟩ => ?_
  subst he
  exact ⟨_, rfl, _, _, _, [], _, [], hW', trodAll_mk1 (shut_bool Try.underlying4 _), (trodAll_cons_mk (Below.trod laidOut (by kernel_rfl) (of_decide_eq_true (by kernel_rfl)) k0 bel lt0) trodAll_mk0), rfl, bel.frame _, fun h => by cases h⟩

theorem over : Rows.clusterFenceRow.holds Try.pinned (OpenSpec.ofChange Rows.clusterFenceSpec) :=
  OpenClaim.holds_of_wide 4 Try.f4 rfl rfl rfl rfl rfl rfl rfl ⟨rfl, rfl, rfl, rfl, rfl⟩ rfl rfl rfl rfl rfl (by kernel_rfl) Try.func4 (by kernel_rfl)
    (of_decide_eq_true (by kernel_rfl)) (by unfold Func.isWrapper; first | (rw [if_pos (by decide +kernel)]; kernel_rfl) | (rw [if_neg (by decide +kernel)]; exact ⟨rfl, rfl⟩))
    (fun os started H enc _ => lifted os started H enc)

/-- ████ THE STATEMENT ████ -/
theorem proved : Rows.ClusterFenceSaid := over
#print axioms proved
end Go.Proofs.Ytamcjhibdcbdnaa.clusterFence
