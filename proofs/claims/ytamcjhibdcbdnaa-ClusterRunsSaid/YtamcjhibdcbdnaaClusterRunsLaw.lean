/-
  The Go function leakresponse/leakresponselaw36.ClusterRuns returns true for every list of numbers, and leaves what was there as it was; no conditions.
-/
import Derived.Test.YtamcjhibdcbdnaaCSa
import Derived.Test.YtamcjhibdcbdnaaRows
import Derived.WalkKit
import Derived.ProofKit
import Derived.OpenShut
import Derived.ShutString
import Derived.ChangeOld
import Derived.Below
namespace Go.Proofs.Ytamcjhibdcbdnaa.clusterRuns
open Go.ChangeShapes Go.WideShapes Go.ChangeAt Go.RowKit
open Go.ChangeMaps (open_string shut_string)
open Go.Proofs.Ytamcjhibdcbdnaa.Tp
open Go.Proofs.Ytamcjhibdcbdnaa.Cl
set_option linter.unusedVariables false

theorem ap_rep {D : Cl} {x : Ev} (h : x.k = 1 ∨ x.k = 3) : (ap D x).r = D.r := by
  unfold ap
  rcases h with h | h
  · rw [if_pos h]
  · rw [if_neg (by omega), if_neg (by omega), if_pos h]

theorem good_k {D : Cl} {x : Ev} (h : Cl.Good D x) : x.k = 1 ∨ x.k = 2 ∨ x.k = 3 ∨ x.k = 4 := by
  rcases h with ⟨h, _⟩ | ⟨h, _⟩ | ⟨h, _⟩ | ⟨h, _⟩ <;> simp [h]

set_option maxRecDepth 100000 in
set_option maxHeartbeats 4000000 in
theorem walk (a0 : Option Addr) (len0 cap0 : Nat) (z0 : List Int) (w : World) (w0 : IsRow .i64 w a0 len0 cap0 z0) :
    Calls Try.prog 7 #[.slice a0 len0 cap0] w fun e w' => e = .returned (.bool true) ∧ Below w.heap.size w w' := by
  have hm := w0.at_.1
  unfold maxLen at hm
  have HTP := Lib.hid (tape_new w0)
  have HBX := Lib.hid (box_below w (.cells #[.slice a0 len0 cap0, .int .i64 0] 32))
  clear w0
  by_cases hlen : 300 < len0
  · have hl0 : (300 : Int) < (len0 : Int) := by omega
    go_enter Try.func7, Try.ntmps7
    go_wp2_with (go_at_call 13; refine (awake36 _).mono ?_; rintro e w1 ⟨rfl, hb1⟩; have HB1 := Lib.hid hb1; clear hb1)
    go_ret
    exact ⟨rfl, HB1.out⟩
  · have hl0 : (len0 : Int) ≤ (300 : Int) := by omega
    go_enter Try.func7, Try.ntmps7
    go_wp2_with fail
    refine (cluster_any w.heap.size _ HTP.out (by simp)).mono ?_
    rintro e w1 ⟨c, v, rfl, hok, hcl, hg1, ht1⟩
    have hb1 : Below w.heap.size w w1 := HBX.out.grown hg1 HBX.out.size (fun k e => by cases e; exact Nat.le_refl _)
    have hs1 := hg1.size
    simp at hs1
    have HQ := Lib.hid (heap_alloc_new w1 (.cells (cv c v) 25))
    have HC := Lib.hid ((hcl.base (show w.heap.size + 1 ≤ _ by simp)).below (box_below w1 (.cells (cv c v) 25)))
    have HB1 := Lib.hid (hb1.trans ((box_below w1 (.cells (cv c v) 25)).mono hb1.size))
    have HT1 := Lib.hid (tape_new2 ht1 (.cells (cv c v) 25))
    have HOK := Lib.hid hok
    clear hcl hg1 ht1 hb1 hok
    have lQ0 : w1.heap.size < (w1.alloc (.cells (cv c v) 25)).heap.size := row_lt HQ.out
    obtain ⟨c0, c1, c2, c3⟩ := cvCells _ _ _ _ _ _ HQ.out
    have hev := events_any w.heap.size 12 0 8 c v _ HT1.out (by omega) HC.out HOK.out (by omega)
    have e8 : ((8 : Nat) : Int) = 8 := rfl
    rw [e8, cv] at hev
    have HEV := Lib.hid hev
    clear hev e8
    go_wp2_with (with_reducible (show wpList _ _ _ (⟨none, .store 25 (.tmp 4) (.tmp 22), _, _, _, _⟩ :: _) _ _); refine wpList_store_row (o := ⟨none, .store 25 (.tmp 4) (.tmp 22), _, _, _, _⟩) rfl 25 (.tmp 4) (.tmp 22) rfl w1.heap.size (cv c v) rfl rfl 25 zC (heap_alloc_new _ _) (info25 _ _) rfl (cv_one _ _) ?_; rw [new_set])
    refine HEV.out.mono ?_
    rintro e w2 ⟨l, A, cc, rfl, hln, ⟨K, hrk⟩, hrow, hg2, ht2⟩
    have Q2 := Lib.hid ((hg2.block w1.heap.size lQ0 (by simp; omega)).trans HQ.out)
    have HC2 := Lib.hid (HC.out.grown hg2 (fun g e => by cases e; exact Nat.lt_succ_self _))
    have HB2 := Lib.hid (HB1.out.grown hg2 HB1.out.size (fun k e => by cases e; exact Nat.le_refl _))
    have HL2 := Lib.hid (hrow.base (show w1.heap.size + 1 ≤ _ by simp))
    have HRK := Lib.hid hrk
    generalize w1.heap.size = Q at *
    have lQ : Q < w2.heap.size := row_lt Q2.out
    clear hg2 ht2 hrow hrk c0 c1 c2 c3 HEV lQ0
    obtain ⟨c0, c1, c2, c3⟩ := cvCells _ _ _ _ _ _ Q2.out
    have hrn := run_any 12 _ l.length cc K A c v l w2 HC2.out HOK.out (by omega) (HL2.out.base (Nat.zero_le _)) HRK.out
    rw [cv] at hrn
    have HRN := Lib.hid hrn
    clear hrn
    go_wp2_with fail
    refine HRN.out.mono ?_
    rintro e w3 ⟨v3, rfl, hc3, hb3⟩
    have hkl := HRK.out.le
    have HR := Lib.hid (fun j (hj : j ≤ K) => ok_rnk HOK.out HRK.out j hj)
    generalize hcK : rn c l K = CK at *
    have HCK := Lib.hid hcK
    clear hcK
    have l3 := hb3.size
    have hbx := box_below w3 (.cells (cv CK v3) 25)
    have hbb := hb3.trans (hbx.mono l3)
    have Q4 := Lib.hid ((hbb.block Q lQ).trans Q2.out)
    have HC4 := Lib.hid (HC2.out.below hbb)
    have HL4 := Lib.hid (HL2.out.below hbb)
    have HB4 := Lib.hid (HB2.out.trans (hbb.mono HB2.out.size))
    have G4 := Lib.hid (heap_alloc_new w3 (.cells (cv CK v3) 25))
    have HK4 := Lib.hid (hc3.below hbx)
    clear hbx hbb hb3 hc3 HRN c0 c1 c2 c3
    have lG := row_lt G4.out
    generalize hW4 : w3.alloc (.cells (cv CK v3) 25) = W4 at *
    have HW4 := Lib.hid hW4
    clear hW4
    have hbx := box_below W4 (.cells (cv c v) 25)
    have M5 := Lib.hid (heap_alloc_new W4 (.cells (cv c v) 25))
    have Q5 := Lib.hid ((hbx.block Q (row_lt Q4.out)).trans Q4.out)
    have G5 := Lib.hid ((hbx.block w3.heap.size lG).trans G4.out)
    have HC5 := Lib.hid (HC4.out.below hbx)
    have HL5 := Lib.hid (HL4.out.below hbx)
    have HK5 := Lib.hid (HK4.out.below hbx)
    have HB5 := Lib.hid (HB4.out.trans (hbx.mono HB4.out.size))
    have hall := fun o => cvCells _ _ _ _ _ _ ((heap_alloc_old W4 o (row_lt Q4.out)).trans Q4.out)
    have d0 := fun o => (hall o).1
    have d1 := fun o => (hall o).2.1
    have d2 := fun o => (hall o).2.2.1
    have d3 := fun o => (hall o).2.2.2
    obtain ⟨c0, c1, c2, c3⟩ := cvCells _ _ _ _ _ _ Q4.out
    have lQG : Q < w3.heap.size := by omega
    clear hall hbx
    go_wp2_with (first
      | (with_reducible (show wpList _ _ _ (⟨none, .store 25 (.tmp 6) (.tmp 30), _, _, _, _⟩ :: _) _ _); refine wpList_store_row (o := ⟨none, .store 25 (.tmp 6) (.tmp 30), _, _, _, _⟩) rfl 25 (.tmp 6) (.tmp 30) rfl w3.heap.size (cv CK v3) rfl rfl 25 zC (heap_alloc_new _ _) (info25 _ _) rfl (cv_one _ _) ?_; rw [new_set, HW4.out])
      | (with_reducible (show wpList _ _ _ (⟨some 33, .load 25 (.tmp 4), _, _, _, _⟩ :: _) _ _); refine wpList_load_row (o := ⟨some 33, .load 25 (.tmp 4), _, _, _, _⟩) rfl 25 (.tmp 4) rfl Q rfl 25 (cv c v) (0, 0) _ Q4.out Try.underlying25 rfl (info25 _ _) ?_)
      | (with_reducible (show wpList _ _ _ (⟨none, .store 25 (.tmp 9) (.tmp 33), _, _, _, _⟩ :: _) _ _); refine wpList_store_row (o := ⟨none, .store 25 (.tmp 9) (.tmp 33), _, _, _, _⟩) rfl 25 (.tmp 9) (.tmp 33) rfl W4.heap.size (cv c v) rfl rfl 25 zC (heap_alloc_new _ _) (info25 _ _) rfl (cv_one _ _) ?_; rw [new_set]))
    clear c0 c1 c2 c3 d0 d1 d2 d3
    have HNM := Lib.hid (NQ.of_size HC4.out (Nat.le_refl _))
    have HNK := Lib.hid (NQ.of_size HK4.out (Nat.le_refl _))
    have HNL := Lib.hid (show ∀ b off, 0 < l.length → A = some ⟨b, off, none⟩ → b ≠ W4.heap.size from fun b off hn e => by
      obtain ⟨b', off', e', -, hl, -⟩ := HL4.out.mem hn
      rw [e] at e'
      cases e'
      omega)
    generalize w3.heap.size = G at *
    generalize W4.heap.size = M at *
    generalize W4.alloc (.cells (cv c v) 25) = W5 at *
    have l5 : M < W5.heap.size := row_lt M5.out
    go_loopw [10, 11] (fun ii ee wr => ee = .int .i64 0 ∧ ∃ j : Nat, j ≤ K ∧ ii = .int .i64 j ∧ ∃ u, W5.grownBy wr (some M) ∧ wr.heap[M]? = some (.cells (cv (rn c l j) u) 25 (0, 0)) ∧ CL wr 0 (rn c l j) u ∧ NQ M (rn c l j) u) (fun ii _ _ => l.length - (intOf ii).toNat)
    case atStart => exact ⟨rfl, 0, by omega, rfl, v, gb_row (gb_of_below (Below.refl _ _)), M5.out, HC5.out.base (Nat.zero_le _), HNM.out⟩
    case round =>
      obtain ⟨rfl, j, hj, rfl, u, hgb, hrow, hcl, hnq⟩ := hrel
      have HGB := Lib.hid hgb
      have HROW := Lib.hid hrow
      have HCL := Lib.hid hcl
      have HNQ := Lib.hid hnq
      have HLJ := Lib.hid (HL5.out.keep hgb (fun g e => by cases e; exact HNL.out))
      have HOKJ := Lib.hid (HR.out j hj)
      have lM := row_lt hrow
      clear hgb hrow hcl hnq
      by_cases hlt : j < l.length
      · obtain ⟨b, off, hA, -, hbk, d0, d1, d2, d3⟩ := HLJ.out.evt hlt
        have hN := heap_alloc_new wr (.cells zC 25)
        have hMW := (heap_alloc_old wr (.cells zC 25) lM).trans HROW.out
        have hbW := box_below wr (.cells zC 25)
        have e0 := (World.cell?_alloc_lt wr (.cells zC 25) _ hbk).trans d0
        have e1 := (World.cell?_alloc_lt wr (.cells zC 25) _ hbk).trans d1
        have e2 := (World.cell?_alloc_lt wr (.cells zC 25) _ hbk).trans d2
        have e3 := (World.cell?_alloc_lt wr (.cells zC 25) _ hbk).trans d3
        have i0 : (0 : Int) ≤ (j : Int) := by omega
        have i1 : (j : Int) < (l.length : Int) := by omega
        have j0 : decide ((j : Int) < 0) = false := decide_eq_false (by omega)
        have j1 : decide ((l.length : Int) ≤ (j : Int)) = false := decide_eq_false (by omega)
        clear d0 d1 d2 d3
        have HNW := Lib.hid hN
        have HMW := Lib.hid hMW
        have HCW := Lib.hid (HCL.out.below hbW)
        have HLW := Lib.hid (HLJ.out.below hbW)
        have HGW := Lib.hid (gb_trans HGB.out (gb_row (gb_of_below hbW)))
        have lNW := row_lt hN
        clear hN hMW hbW
        subst hA
        go_wp2_with fail
        have hgd : Cl.Good (rn c l j) (l.getD j v0) ∧ ((j < K ∧ fitB (rn c l j) (l.getD j v0) = true) ∨ (j = K ∧ fitB (rn c l j) (l.getD j v0) = false)) := by
          by_cases hjK : j < K
          · obtain ⟨h1, h2⟩ := HRK.out.fit j hjK
            exact ⟨h1, .inl ⟨hjK, h2⟩⟩
          · obtain rfl : j = K := by omega
            obtain ⟨h1, h2⟩ := HRK.out.stop hlt
            exact ⟨h1, .inr ⟨rfl, h2⟩⟩
        have HGD := Lib.hid hgd
        have HNX := Lib.hid (show rn c l (j + 1) = ap (rn c l j) (l.getD j v0) from rfl)
        clear hgd
        generalize hD : rn c l j = D at *
        have HD := Lib.hid hD
        clear hD
        generalize hxx : l.getD j v0 = x at *
        have HLX := Lib.hid hxx
        clear hxx
        unfold zC at HNW HMW HCW HLW HGW lNW e0 e1 e2 e3
        generalize hW1 : wr.alloc (.cells #[.bool false, .slice none 0 0, .slice none 0 0, .slice none 0 0] 25) = W1 at *
        clear hW1
        obtain ⟨c0, c1, c2, c3⟩ := cvCells _ _ _ _ _ _ HMW.out
        have c0' : W1.drew.cell? ⟨M, 0, none⟩ = some (.bool D.f) := c0
        have c1' : W1.drew.cell? ⟨M, 1, none⟩ = some (.slice u.A1 D.s.length u.c1) := c1
        have c2' : W1.drew.cell? ⟨M, 2, none⟩ = some (.slice u.A2 D.r.length u.c2) := c2
        have c3' : W1.drew.cell? ⟨M, 3, none⟩ = some (.slice u.A3 D.p.length u.c3) := c3
        have e0' : W1.drew.cell? ⟨b, off + j * 4, none⟩ = some (.int .i64 (x.k : Int)) := e0
        have e1' : W1.drew.cell? ⟨b, off + j * 4 + 1, none⟩ = some (.int .i64 (x.i : Int)) := e1
        have e2' : W1.drew.cell? ⟨b, off + j * 4 + 2, none⟩ = some (.int .i64 (x.q : Int)) := e2
        have e3' : W1.drew.cell? ⟨b, off + j * 4 + 3, none⟩ = some (.int .i64 (x.b : Int)) := e3
        have HA := Lib.hid (apply_p HCW.out HOKJ.out HGD.out.1 (by omega))
        have hAd : Calls Try.prog 24 #[.agg #[.bool D.f, .slice u.A1 D.s.length u.c1, .slice u.A2 D.r.length u.c2, .slice u.A3 D.p.length u.c3], .agg #[.int .i64 (x.k : Int), .int .i64 (x.i : Int), .int .i64 (x.q : Int), .int .i64 (x.b : Int)]] W1.drew (AForm D x W1.drew) := apply_p (HCW.out.below (Below.refl _ _).drew) HOKJ.out HGD.out.1 (by omega)
        have HAD := Lib.hid hAd
        clear hAd
        have lNW1 : wr.heap.size < W1.heap.size := lNW
        have lMW : M < W1.heap.size := row_lt HMW.out
        clear lNW
        go_region_with (go_at_call 24; (first | (with_reducible refine HA.out.mono ?_) | (with_reducible refine HAD.out.mono ?_)); rintro e wb ⟨f', B1, n1, k1, B2, n2, k2, B3, n3, k3, er, rfl, hout⟩; have hbw : Below W1.heap.size W1 wb := (by first | exact hout.2 | exact (Below.refl _ W1).drew.trans hout.2); have QB := Lib.hid ((hbw.block wr.heap.size lNW1).trans HNW.out); obtain ⟨y0, y1, y2, y3⟩ := fcCells QB.out; have yf : ∀ j, wb.frozen? ⟨wr.heap.size, j, none⟩ = false := (fun j => frozen_of_row _ _ _ _ _ QB.out); have HOUT := Lib.hid hout; have HBW := Lib.hid hbw; clear hout hbw)
        all_goals
          rw [set4row QB.out rfl]
          rcases HOUT.out.1 with ⟨hfit, rfl, v', hcs, hcl⟩ | ⟨hfit, rfl, hcs⟩
          ·
            rw [show (#[.bool f', .slice B1 n1 k1, .slice B2 n2 k2, .slice B3 n3 k3] : Array Value) = cv (ap D x) v' from hcs]
            obtain ⟨hjK, hgx⟩ : j < K ∧ Cl.Good D x := by
              rcases HGD.out.2 with ⟨h, -⟩ | ⟨-, h⟩
              · exact ⟨h, HGD.out.1⟩
              · rw [h] at hfit
                cases hfit
            have hN := setRow_heap _ _ _ (cv (ap D x) v') _ _ QB.out
            have hM := (setRow_other wb wr.heap.size M (cv (ap D x) v') (by omega)).trans ((HBW.out.block M lMW).trans HMW.out)
            have hsz := HGB.out.size
            have hg3 := gb_far (gb_trans HGW.out (gb_row (gb_of_below HBW.out))) hsz (cv (ap D x) v')
            have hc3 := (hcl.set (show wr.heap.size < _ from lNW1) (cv (ap D x) v'))
            have hd3 := (HCW.out.below HBW.out).setq (NQ.of_size HCL.out (Nat.le_refl wr.heap.size)) (cv (ap D x) v')
            have hl3 := (HLW.out.below HBW.out).setq (g := wr.heap.size) (fun b' off' hn e => by
              obtain ⟨b2, off2, e2, -, hl, -⟩ := HLJ.out.mem hn
              rw [e] at e2
              cases e2
              omega) (cv (ap D x) v')
            have hap := fun h => ap_rep (D := D) (x := x) h
            have hkk := good_k hgx
            have HK := Lib.hid hkk
            have HAP := Lib.hid hap
            have H3N := Lib.hid hN
            have H3M := Lib.hid hM
            have H3G := Lib.hid hg3
            have H3C := Lib.hid hc3
            have H3D := Lib.hid hd3
            have H3L := Lib.hid hl3
            clear hN hM hg3 hc3 hd3 hl3 hap hkk hcs hcl y0 y1 y2 y3 yf c0 c1 c2 c3 c0' c1' c2' c3' e0 e1 e2 e3 e0' e1' e2' e3' hfit hgx
            generalize ap D x = D2 at *
            generalize wb.setRow wr.heap.size (cv D2 v') = W3 at *
            have l3N := row_lt H3N.out
            obtain ⟨b3, off3, hA3, -, -, z0, z1, z2, z3⟩ := H3L.out.evt hlt
            cases hA3
            have hxx : l.getD j v0 = x := HLX.out
            rw [hxx] at z0 z1 z2 z3
            clear hxx z1 z2 z3
            obtain ⟨c0, c1, c2, c3⟩ := cvCells _ _ _ _ _ _ H3M.out
            obtain ⟨y0, y1, y2, y3⟩ := cvCells _ _ _ _ _ _ H3N.out
            by_cases hkr : x.k = 1 ∨ x.k = 3
            · have hr := HAP.out hkr
              have heq := equal_any u.A2 v'.A2 D.r.length u.c2 v'.c2 D.r W3 (H3D.out.r2.base (Nat.zero_le _)) (by have := H3C.out.r2.base (Nat.zero_le _); rwa [hr] at this) (by have := HOKJ.out.r2; omega)
              rw [hr] at y2
              have HEQ := Lib.hid heq
              have k13 : (((x.k : Int) == 1) = true) ∨ (((x.k : Int) == 1) = false ∧ ((x.k : Int) == 3) = true) := by
                rcases hkr with h | h <;> simp [h]
              clear hr heq hkr
              rcases k13 with k1' | ⟨k1', k3'⟩
              all_goals
                go_wp2_with fail
                refine HEQ.out.mono ?_
                rintro e w6 ⟨rfl, hb6⟩
                have Q6 := Lib.hid ((hb6.block _ (row_lt H3M.out)).trans H3M.out)
                have N6 := Lib.hid ((hb6.block _ l3N).trans H3N.out)
                have HC6 := Lib.hid (H3C.out.below hb6)
                have HG6 := Lib.hid (gb_trans H3G.out (gb_row (gb_of_below hb6)))
                clear hb6 c0 c1 c2 c3 y0 y1 y2 y3 z0
                go_wp2_with (first
                  | (with_reducible (show wpList _ _ _ (⟨some 72, .load 25 (.tmp 12), _, _, _, _⟩ :: _) _ _); refine wpList_load_row (o := ⟨some 72, .load 25 (.tmp 12), _, _, _, _⟩) rfl 25 (.tmp 12) rfl wr.heap.size rfl 25 (cv D2 v') (0, 0) _ N6.out Try.underlying25 rfl (info25 _ _) ?_)
                  | (with_reducible (show wpList _ _ _ (⟨none, .store 25 (.tmp 9) (.tmp 72), _, _, _, _⟩ :: _) _ _); refine wpList_store_row (o := ⟨none, .store 25 (.tmp 9) (.tmp 72), _, _, _, _⟩) rfl 25 (.tmp 9) (.tmp 72) rfl M (cv D2 v') rfl rfl 25 (cv D u) Q6.out (info25 _ _) rfl (cv_one _ _) ?_))
                exact ⟨⟨rfl, j + 1, by omega, by go_num, v', gb_trans HG6.out (gb_setRow _ _ _), by rw [HNX.out]; exact setRow_heap _ _ _ _ _ _ Q6.out, by rw [HNX.out]; exact (HC6.out.set lMW _).base (Nat.zero_le _), by rw [HNX.out]; exact NQ.of_base HC6.out lMW⟩, by simp [intOf]; omega⟩
            · have k1' : ((x.k : Int) == 1) = false := beq_eq_false_iff_ne.2 (by omega)
              have k3' : ((x.k : Int) == 3) = false := beq_eq_false_iff_ne.2 (by omega)
              clear hkr
              go_wp2_with (first
                | (with_reducible (show wpList _ _ _ (⟨some 72, .load 25 (.tmp 12), _, _, _, _⟩ :: _) _ _); refine wpList_load_row (o := ⟨some 72, .load 25 (.tmp 12), _, _, _, _⟩) rfl 25 (.tmp 12) rfl wr.heap.size rfl 25 (cv D2 v') (0, 0) _ H3N.out Try.underlying25 rfl (info25 _ _) ?_)
                | (with_reducible (show wpList _ _ _ (⟨none, .store 25 (.tmp 9) (.tmp 72), _, _, _, _⟩ :: _) _ _); refine wpList_store_row (o := ⟨none, .store 25 (.tmp 9) (.tmp 72), _, _, _, _⟩) rfl 25 (.tmp 9) (.tmp 72) rfl M (cv D2 v') rfl rfl 25 (cv D u) H3M.out (info25 _ _) rfl (cv_one _ _) ?_))
              exact ⟨⟨rfl, j + 1, by omega, by go_num, v', gb_trans H3G.out (gb_setRow _ _ _), by rw [HNX.out]; exact setRow_heap _ _ _ _ _ _ H3M.out, by rw [HNX.out]; exact (H3C.out.set lMW _).base (Nat.zero_le _), by rw [HNX.out]; exact NQ.of_base H3C.out lMW⟩, by simp [intOf]; omega⟩
          ·
            obtain rfl : j = K := by
              rcases HGD.out.2 with ⟨-, h⟩ | ⟨h, -⟩
              · rw [h] at hfit
                cases hfit
              · exact h
            have hsz := HGB.out.size
            generalize (#[.bool f', .slice B1 n1 k1, .slice B2 n2 k2, .slice B3 n3 k3] : Array Value) = cs at *
            have hg3 := gb_far (gb_trans HGW.out (gb_row (gb_of_below HBW.out))) hsz cs
            have hd3 := (HCW.out.below HBW.out).setq (NQ.of_size HCL.out (Nat.le_refl wr.heap.size)) cs
            have hM := (setRow_other wb wr.heap.size M cs (by omega)).trans ((HBW.out.block M lMW).trans HMW.out)
            obtain rfl : CK = D := HCK.out.symm.trans HD.out
            have HRE := Lib.hid (show rne l j = 39 from if_neg (by omega))
            have HMF := Lib.hid hM
            have HDF := Lib.hid hd3
            have HKF := Lib.hid (HK5.out.keep hg3 (fun g e => by cases e; exact HNK.out))
            have HGF := Lib.hid ((hg3.block G (by omega) (by simp; omega)).trans G5.out)
            have HBF := Lib.hid (HB5.out.grown hg3 HB5.out.size (fun k e => by cases e; omega))
            have HOKF := HOKJ
            clear hg3 hd3 hM hcs y0 y1 y2 y3 yf c0 c1 c2 c3 c0' c1' c2' c3' e0 e1 e2 e3 e0' e1' e2' e3' hfit
            generalize wb.setRow wr.heap.size cs = W3 at *
            obtain ⟨c0, c1, c2, c3⟩ := cvCells _ _ _ _ _ _ HMF.out
            obtain ⟨g0, g1, g2, g3⟩ := cvCells _ _ _ _ _ _ HGF.out
            have hsa := same_any _ _ CK v3 u _ HKF.out HDF.out (by have := HOKF.out.s2; omega) (by have := HOKF.out.r2; omega) (by have := HOKF.out.p2; omega)
            rw [cv, cv] at hsa
            have HSA := Lib.hid hsa
            clear hsa
            rw [HRE.out]
            go_wp2_with fail
            refine HSA.out.mono ?_
            rintro e w8 ⟨rfl, hb8⟩
            have HB8 := Lib.hid (HBF.out.trans (hb8.mono HBF.out.size))
            clear hb8 c0 c1 c2 c3 g0 g1 g2 g3
            go_wp2_with fail
            refine (awake36 _).mono ?_
            rintro e w9 ⟨rfl, hb9⟩
            have HB9 := Lib.hid (HB8.out.trans (hb9.mono HB8.out.size))
            clear hb9
            go_wp2_with fail
            go_ret
            exact ⟨rfl, HB9.out⟩
      ·
        obtain rfl : j = l.length := by omega
        obtain rfl : K = l.length := by omega
        have HRE := Lib.hid (show rne l l.length = 0 from if_pos rfl)
        have hg3 := HGB.out
        have HKF := Lib.hid (HK5.out.keep hg3 (fun g e => by cases e; exact HNK.out))
        have HGF := Lib.hid ((hg3.block G (by omega) (by simp; omega)).trans G5.out)
        have HBF := Lib.hid (HB5.out.grown hg3 HB5.out.size (fun k e => by cases e; omega))
        have hck := HCK.out
        rw [hck] at HROW HCL HOKJ
        have HMF := HROW
        have HDF := HCL
        have HOKF := HOKJ
        clear hg3 hck
        obtain ⟨c0, c1, c2, c3⟩ := cvCells _ _ _ _ _ _ HMF.out
        obtain ⟨g0, g1, g2, g3⟩ := cvCells _ _ _ _ _ _ HGF.out
        have hsa := same_any _ _ CK v3 u _ HKF.out HDF.out (by have := HOKF.out.s2; omega) (by have := HOKF.out.r2; omega) (by have := HOKF.out.p2; omega)
        rw [cv, cv] at hsa
        have HSA := Lib.hid hsa
        clear hsa
        rw [HRE.out]
        go_wp2_with fail
        refine HSA.out.mono ?_
        rintro e w8 ⟨rfl, hb8⟩
        have HB8 := Lib.hid (HBF.out.trans (hb8.mono HBF.out.size))
        clear hb8 c0 c1 c2 c3 g0 g1 g2 g3
        go_wp2_with fail
        refine (awake36 _).mono ?_
        rintro e w9 ⟨rfl, hb9⟩
        have HB9 := Lib.hid (HB8.out.trans (hb9.mono HB8.out.size))
        clear hb9
        go_wp2_with fail
        go_ret
        exact ⟨rfl, HB9.out⟩

/-! ### THE ROW's STEP: WRITTEN OUT: LEAVE IT -/
set_option maxRecDepth 100000 in
theorem lifted (os : Os) (started : os.Started) (H : Type) (enc : TypeId × Value → H) :
    ReturnsInHanded {} Try.checked os 7 .any (Rows.clusterRunsSpec.pre6 enc Try.prog Try.f7 Rows.clusterRunsRow.domain false) (Rows.clusterRunsSpec.post enc Try.prog Try.f7 false true false false) := by
  refine returnsInHanded_of_change (C := Try.checked) own started (by kernel_rfl) Try.func7
    (ChangeSpec.witness6 (enc := enc) (C := Try.checked) false ⟨#[], #[.slice none 0 0], []⟩ 8 (by kernel_rfl) (by kernel_rfl) (by kernel_rfl) (by kernel_rfl)) ?_
  intro W base args ds gs before hval0 hW hcnd _
  have hval : ∀ (j : Nat) t v, Try.f7.params[j]? = some t → args[j]? = some v → Value.okWide Try.prog W .any base t v := hval0
  have hW' := hW
  obtain ⟨p, q, hA0, hV, rfl, hfz, hnd⟩ := hW
  have hA : DataW.TrodAll enc Try.prog W 0 (fun _ => true) true Try.f7.params.toList args.toList ds p := hA0
  rw [Try.params7] at hA hval
  obtain ⟨v0, vs0, d0, ds0, p0, q0, hargs, rfl, rfl, h0, r0⟩ := trodAll_cons hA
  obtain ⟨rfl, rfl, rfl⟩ := trodAll_nil r0
  obtain rfl : args = #[v0] := by cases args; simp_all
  obtain ⟨rfl, rfl⟩ := trodVars_none hV
  obtain ⟨a0, len0, cap0, rfl⟩ := okWide_slice Try.underlying22 (hval 0 22 v0 rfl rfl)
  have k0 := h0
  have lt0 : ∀ x ∈ p0, x.block < W.heap.size := by obtain ⟨m, hm⟩ := k0; exact DataW.trod_lt m _ _ _ hm
  obtain ⟨z0, w0⟩ : ∃ zs, IsRow .i64 W a0 len0 cap0 zs := by
    obtain ⟨fuel, hf⟩ := h0
    rcases open_ints Try.underlying22 Try.underlying3 (by kernel_rfl) hf with ⟨hcs, _⟩ | ⟨x, l, c, zs, hcs, _, hl, hm, hz, _, hcell, hwz⟩
    · simp [Value.cells] at hcs
      obtain ⟨rfl, rfl, rfl⟩ := hcs
      exact ⟨[], .inl ⟨rfl, rfl, rfl, rfl⟩⟩
    · simp [Value.cells] at hcs
      obtain ⟨rfl, rfl, rfl⟩ := hcs
      exact ⟨zs, .inr ⟨_, rfl, hl, hm, by simpa using hz, hcell, hwz⟩⟩
  clear hA0 hval0
  refine (walk a0 len0 cap0 z0 W w0).mono fun e W' ⟨he, bel⟩ => ?_
  subst he
  exact ⟨_, rfl, _, _, _, [], _, [], hW', trodAll_mk1 (shut_bool Try.underlying4 _), (trodAll_cons_mk (Below.trod laidOut (by kernel_rfl) (of_decide_eq_true (by kernel_rfl)) k0 bel lt0) trodAll_mk0), rfl, bel.frame _, fun h => by cases h⟩

theorem over : Rows.clusterRunsRow.holds Try.pinned (OpenSpec.ofChange Rows.clusterRunsSpec) :=
  OpenClaim.holds_of_wide 7 Try.f7 rfl rfl rfl rfl rfl rfl rfl ⟨rfl, rfl, rfl, rfl, rfl⟩ rfl rfl rfl rfl rfl (by kernel_rfl) Try.func7 (by kernel_rfl)
    (of_decide_eq_true (by kernel_rfl)) (by unfold Func.isWrapper; first | (rw [if_pos (by decide +kernel)]; kernel_rfl) | (rw [if_neg (by decide +kernel)]; exact ⟨rfl, rfl⟩))
    (fun os started H enc _ => lifted os started H enc)

/-- ████ THE STATEMENT ████ -/
theorem proved : Rows.ClusterRunsSaid := over
#print axioms proved
end Go.Proofs.Ytamcjhibdcbdnaa.clusterRuns
