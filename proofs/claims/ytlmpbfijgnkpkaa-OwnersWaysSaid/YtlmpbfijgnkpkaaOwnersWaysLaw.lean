/-
  The Go function leakresponse/leakresponselaw26.OwnersWays returns true for every list of numbers, and leaves what was there as it was; no conditions. A way goes from steward to steward, each once, and the owner is the first person in it.
-/
import Derived.Test.YtlmpbfijgnkpkaaDjF
import Derived.Test.YtlmpbfijgnkpkaaRows
import Derived.WalkKit
import Derived.ProofKit
import Derived.OpenShut
import Derived.ShutString
import Derived.ChangeOld
import Derived.Below
import Derived.StillTailTactics
import Derived.Deep.CutBlock
namespace Go.Proofs.Ytlmpbfijgnkpkaa.ownersWays
open Go.ChangeShapes Go.WideShapes Go.ChangeAt Go.RowKit
open Go.ChangeMaps (open_string shut_string)
open Go.Proofs.Ytlmpbfijgnkpkaa.Tp
open Go.Proofs.Ytlmpbfijgnkpkaa.Di
set_option linter.unusedVariables false

theorem row_take {w : World} {B n i : Nat} {A : Option Addr} {l : List Nat} (h : Row w B 1 A n (iv l)) (hi : i ≤ n) : Row w B 1 A i (iv (l.take i)) := by
  have hl := h.len
  rw [iv_len] at hl
  refine ⟨by rw [iv_len, List.length_take]; congr 1; omega, fun h0 => ?_⟩
  obtain ⟨b, off, e, hB, hlt, hc⟩ := h.mem (by omega)
  refine ⟨b, off, e, hB, hlt, fun j u hj => hc j u ?_⟩
  have hji := (List.getElem?_eq_some_iff.1 hj).1
  simp [iv] at hji
  unfold iv at hj ⊢
  rw [List.map_take, List.getElem?_take_of_lt (by omega)] at hj
  exact hj
theorem own_cap {w : World} {B e s n c : Nat} {A : Option Addr} {xs : List Value} (h : w.ownsRow B e s (.slice A n c) n xs) : n ≤ c := by
  rcases h.2 with ⟨q, h0⟩ | ⟨g, cap, cur, q, _, _, hnc, _⟩
  · omega
  · cases q
    exact hnc
theorem take_no {f : Nat → Int} {n p : Nat} {c : List Nat} (h : Wy f n p c) {i : Nat} (hi : i < c.length) : anyB (fun j => (c.take i).getD j 0 == c.getD i 0) i = false := by
  refine any_no fun j hj => ?_
  rw [beq_eq_false_iff_ne]
  intro e
  rw [List.getD_eq_getElem?_getD, List.getElem?_take_of_lt hj, ← List.getD_eq_getElem?_getD] at e
  have := h.inj (by omega) hi e
  omega
theorem tail_wy {f : Nat → Int} {n p : Nat} {c : List Nat} (h : Wy f n p c) (hl : 1 < c.length) (hf : f (c.getD (c.length - 1) 0) = -1) : Wy f n (c.getD 1 0) c.tail := by
  have hg : ∀ i, c.tail.getD i 0 = c.getD (i + 1) 0 := fun i => by
    cases c with
    | nil => rfl
    | cons a l => rfl
  have hln : c.tail.length = c.length - 1 := List.length_tail
  refine ⟨by omega, hg 0, fun x hx => h.lt x (List.mem_of_mem_tail hx), h.nd.sublist (List.tail_sublist c), fun i hi => ?_, .inl ?_⟩
  · rw [hg, hg]; exact h.nxt (i + 1) (by omega)
  · rw [hg, hln, show c.length - 1 - 1 + 1 = c.length - 1 by omega]; exact hf
theorem tail_fp {d : Dy} {c : List Nat} (hl : 1 < c.length) (h : kd d (c.getD 0 0) ≠ 1) : fp d c.tail = fp d c := by
  cases c with
  | nil => rfl
  | cons a l =>
    have h : kd d a ≠ 1 := h
    show fp d l = fp d (a :: l)
    unfold fp
    rw [List.find?_cons, beq_eq_false_iff_ne.2 h]
theorem fp_head {d : Dy} {c : List Nat} (hl : 0 < c.length) (h : kd d (c.getD 0 0) = 1) : (fp d c).isSome = true := by
  rw [fp_at hl h (fun i hi => absurd hi (by omega))]; rfl

set_option maxRecDepth 100000 in
set_option maxHeartbeats 4000000 in
theorem walk (a0 : Option Addr) (len0 cap0 : Nat) (z0 : List Int) (w : World) (w0 : IsRow .i64 w a0 len0 cap0 z0) :
    Calls Try.prog 5 #[.slice a0 len0 cap0] w fun e w' => e = .returned (.bool true) ∧ Below w.heap.size w w' := by
  have hm := w0.at_.1
  unfold maxLen at hm
  have HTP := Lib.hid (tape_new w0)
  have HBX := Lib.hid (box_below w (.cells #[.slice a0 len0 cap0, .int .i64 0] 30))
  clear w0
  by_cases hlen : 300 < len0
  · have hl0 : (300 : Int) < (len0 : Int) := by omega
    go_enter Try.func5, Try.ntmps5
    go_wp2_with (go_at_call 8; refine (awake_any _).mono ?_; rintro e w1 ⟨rfl, hb1⟩; have HB1 := Lib.hid hb1; clear hb1)
    go_ret
    exact ⟨rfl, HB1.out⟩
  · have hl0 : (len0 : Int) ≤ (300 : Int) := by omega
    go_enter Try.func5, Try.ntmps5
    go_wp2_with fail
    refine (directory_any w.heap.size _ HTP.out (by simp)).mono ?_
    rintro e w1 ⟨d, v, rfl, hmk, hrl, hg1, ht1⟩
    have hb1 : Below w.heap.size w w1 := HBX.out.grown hg1 HBX.out.size (fun k e => by cases e; exact Nat.le_refl _)
    have hs1 := hg1.size
    simp at hs1
    have HQ := Lib.hid (heap_alloc_new w1 (.cells (gd d v) 25))
    have HDL := Lib.hid ((hrl.base (show w.heap.size + 1 ≤ _ by simp)).below (box_below w1 (.cells (gd d v) 25)))
    have HB1 := Lib.hid (hb1.trans ((box_below w1 (.cells (gd d v) 25)).mono hb1.size))
    have HT1 := Lib.hid (tape_new2 ht1 (.cells (gd d v) 25))
    have HMK := Lib.hid hmk
    have hn1 := hmk.n1
    have hn7 := hmk.n7
    clear hrl hg1 ht1 hb1 hmk
    obtain ⟨g0, g1⟩ := gdCells HQ.out
    go_wp2_with (with_reducible (show wpList _ _ _ (⟨none, .store 25 (.tmp 4) (.tmp 23), _, _, _, _⟩ :: _) _ _); refine wpList_store_row (o := ⟨none, .store 25 (.tmp 4) (.tmp 23), _, _, _, _⟩) rfl 25 (.tmp 4) (.tmp 23) rfl w1.heap.size (gd d v) rfl rfl 25 zD (heap_alloc_new _ _) (info25 _ _) rfl (gd_one _ _) ?_; rw [new_set])
    have HF := Lib.hid (show (#[.slice v.A1 d.k.length v.c1, .slice v.A2 d.e.length v.c2] : Array Value) = gd d v from rfl)
    rw [HF.out]
    refine (stewards_any w.heap.size 0 d v _ HT1.out (by simp; omega) hn1 (by omega)).mono ?_
    rintro e w2 ⟨l, A, cc, rfl, hms, hown, hg2, ht2⟩
    generalize w1.heap.size = Q at *
    generalize w1.alloc (.cells (gd d v) 25) = W1 at *
    have lQ : Q < W1.heap.size := row_lt HQ.out
    have HQ2 := Lib.hid ((hg2.block _ lQ (fun e => by injection e; omega)).trans HQ.out)
    have HD2 := Lib.hid (HDL.out.grown hg2 (fun g e => by cases e; omega))
    have HB2 := Lib.hid (HB1.out.grown hg2 HB1.out.size (fun k e => by cases e; exact Nat.le_refl _))
    have HT2 := Lib.hid ht2
    have HS2 := Lib.hid ((row_of_own hown).base (show w.heap.size + 1 ≤ W1.heap.size by omega))
    have HMS := Lib.hid hms
    have hm9 := hms.m9
    clear hg2 ht2 g0 g1 HQ HDL HB1 HT1 lQ hown hms
    generalize w2 = W2 at *
    have HOK := Lib.hid HMK.out.ok
    have HSK := Lib.hid HMS.out.ok
    have lQ : Q < W2.heap.size := row_lt HQ2.out
    obtain ⟨g0, g1⟩ := gdCells HQ2.out
    go_wp2_with fail
    refine (next_any w.heap.size 24 _ HT2.out (by omega) (by omega)).mono ?_
    rintro e wn ⟨zt, a1, b1, rfl, hgn, htn⟩
    obtain ⟨t, rfl⟩ : ∃ z : Nat, zt = z := ⟨zt.toNat, by omega⟩
    have BN := Lib.hid (HB2.out.grown hgn HB2.out.size (fun k e => by cases e; exact Nat.le_refl _))
    have HQN := Lib.hid ((hgn.block Q lQ (fun e => by injection e; omega)).trans HQ2.out)
    have HDN := Lib.hid (HD2.out.grown hgn (fun g e => by cases e; omega))
    have HSN := Lib.hid ((HS2.out.grown hgn (fun g e => by cases e; omega)).base (Nat.zero_le _))
    have lN := row_lt HQN.out
    clear a1 b1 hgn htn g0 g1
    obtain ⟨f, hf⟩ : ∃ f : Nat → Int, (fun q : Nat => stw l (q : Int) (t : Int)) = f := ⟨_, rfl⟩
    have hfq : ∀ q : Nat, stw l (q : Int) (t : Int) = f q := fun q => by rw [← hf]
    have how := fun (y : Nat) (hy : y < d.k.length) w' (hw : Below wn.heap.size wn w') => way20_any _ d v l A cc y t w' (HDN.out.below hw) (HSN.out.below hw) HOK.out HSK.out hy
    have hof := fun (y : Nat) w' (hw : Below wn.heap.size wn w') => of_any _ d v l A cc y t w' (HDN.out.below hw) (HSN.out.below hw) HOK.out HSK.out
    have hon := fun (y : Nat) (hy : y < d.k.length) w' (hw : Below wn.heap.size wn w') => owner15_any _ d v l A cc y t w' (HDN.out.below hw) (HSN.out.below hw) HOK.out HSK.out hy
    have hov : ∀ y c, Wy f d.k.length y c → onr d l t y = fp d c := fun y c hc => by
      unfold onr
      rw [hf, hc.eq]
    rw [hf] at how
    simp only [gd, hfq, opV] at how hof hon
    generalize onr d l t = oV at *
    have HOW := Lib.hid how
    have HOF := Lib.hid hof
    have HON := Lib.hid hon
    have HOV := Lib.hid hov
    have HKP := Lib.hid (fun w' (hw : Below wn.heap.size wn w') => gdCells ((hw.block _ lN).trans HQN.out))
    have HRN := Lib.hid (Below.refl wn.heap.size wn)
    obtain ⟨g0, g1⟩ := HKP.out _ HRN.out
    clear how hof hon hov hf hfq
    go_wp2_with fail
    clear g0 g1
    go_loopw [32] (fun ii wr => ∃ k : Nat, k ≤ d.k.length ∧ ii = .int .i64 (k : Int) ∧ Below wn.heap.size wn wr) (fun ii _ => d.k.length - (intOf ii).toNat)
    case atStart => exact ⟨0, by omega, rfl, HRN.out⟩
    case round =>
      obtain ⟨k, hk, rfl, hbl⟩ := hrel
      have HBL := Lib.hid hbl
      obtain ⟨g0, g1⟩ := HKP.out _ hbl
      by_cases hlk : k < d.k.length
      · have HW := Lib.hid (HOW.out k hlk _ hbl)
        have j1 : (k : Int) < (d.k.length : Int) := by omega
        have j0 : (0 : Int) ≤ (k : Int) := by omega
        clear hbl
        go_wp2_with fail
        refine HW.out.mono ?_
        rintro e we ⟨c, Ac, kc, rfl, hcw, hrc, hbe⟩
        have HCW := Lib.hid hcw
        have HRC := Lib.hid (row_of_own hrc)
        have HBE := Lib.hid (HBL.out.trans (hbe.mono HBL.out.size))
        have hcn : c.length ≤ d.k.length := nodup_le _ _ hcw.nd hcw.lt
        have hc1 := hcw.ne
        have hkc := own_cap hrc
        obtain ⟨bc, oc, hAc, -, -, y0⟩ := HRC.out.int (i := 0) hc1
        subst hAc
        rw [hcw.hd] at y0
        have y0' : we.cell? ⟨bc, oc, none⟩ = some (.int .i64 (k : Int)) := y0
        have e0 : ((c.length : Int) == 0) = false := beq_eq_false_iff_ne.2 (by omega)
        have e1 : ((k : Int) != (k : Int)) = false := by simp
        have c0 : (0 : Int) < (c.length : Int) := by omega
        clear hcw hrc hbe g0 g1
        go_wp2_with fail
        clear y0 y0'
        go_loopw [9] (fun ii wv => ∃ i : Nat, 1 ≤ i ∧ i ≤ c.length ∧ ii = .int .i64 (i : Int) ∧ Below we.heap.size we wv) (fun ii _ => c.length - (intOf ii).toNat)
        case atStart => exact ⟨1, by omega, by omega, rfl, Below.refl _ _⟩
        case round =>
          obtain ⟨i, hi1, hi, rfl, hbv⟩ := hrel
          rename World => wv
          have HBV := Lib.hid (HBE.out.trans (hbv.mono HBE.out.size))
          have HEV := Lib.hid hbv
          have HRV := Lib.hid (HRC.out.below hbv)
          obtain ⟨g0, g1⟩ := HKP.out _ HBV.out
          have hbr : Below wv.heap.size wv wv := Below.refl _ _
          have hbd : Below wv.heap.size wv wv.drew := hbr.drew
          clear hbv
          by_cases hli : i < c.length
          · obtain ⟨m, hm⟩ : ∃ m, i = m + 1 := ⟨i - 1, by omega⟩
            obtain ⟨b2, o2, hA2, -, -, x0⟩ := HRV.out.int (i := m) (by omega)
            cases hA2
            obtain ⟨b3, o3, hA3, -, -, x1⟩ := HRV.out.int hli
            cases hA3
            have hnx := HCW.out.nxt m (by omega)
            rw [← hm] at hnx
            have htn := take_no HCW.out hli
            have hcr : ∀ w', Below wv.heap.size wv w' → Row w' 0 1 (some ⟨bc, oc, none⟩) i (iv (c.take i)) := fun w' hw => (row_take (HRV.out.below hw) (by omega)).base (Nat.zero_le _)
            have hA1 := fun w' (hw : Below wv.heap.size wv w') => HOF.out (c.getD m 0) w' (HBV.out.trans (hw.mono HBV.out.size))
            have hA2 := fun w' (hw : Below wv.heap.size wv w') => has_any (c.take i) (c.getD i 0) _ i kc w' (hcr w' hw) (by omega)
            simp only [hnx] at hA1
            rw [htn] at hA2
            have hx01 : ∀ w', Below wv.heap.size wv w' → w'.cell? ⟨bc, oc + m, none⟩ = some (.int .i64 ((c.getD m 0 : Nat) : Int)) ∧ w'.cell? ⟨bc, oc + i, none⟩ = some (.int .i64 ((c.getD i 0 : Nat) : Int)) := fun w' hw => by
              obtain ⟨b4, o4, hA4, -, -, q0⟩ := (HRV.out.below hw).int (i := m) (by omega)
              cases hA4
              obtain ⟨b5, o5, hA5, -, -, q1⟩ := (HRV.out.below hw).int hli
              cases hA5
              exact ⟨q0, q1⟩
            generalize c.getD m 0 = y at *
            generalize c.getD i 0 = z at *
            have HA1 := Lib.hid hA1
            have HA2 := Lib.hid hA2
            have hne : ((z : Int) != (z : Int)) = false := by simp
            have hw1 : IntKind.i64.wrap ((i : Int) - 1) = (m : Int) := by rw [IntWalk.i64_in _ (by omega)]; omega
            have hw2 : (i : Int) - 1 = (m : Int) := by omega
            have hw3 : IntKind.i64.wrap (m : Int) = (m : Int) := IntWalk.i64_in _ (by omega)
            have m0' : (0 : Int) ≤ (m : Int) := by omega
            have m1' : (m : Int) < (c.length : Int) := by omega
            have i0' : (0 : Int) ≤ (i : Int) := by omega
            have i1' : (i : Int) < (c.length : Int) := by omega
            have i2' : (i : Int) ≤ (kc : Int) := by omega
            have HK := Lib.hid (show ∀ w', Below wv.heap.size wv w' → w'.cell? ⟨Q, 0, none⟩ = some (.slice v.A1 d.k.length v.c1) ∧ w'.cell? ⟨Q, 1, none⟩ = some (.slice v.A2 d.e.length v.c2) ∧ w'.cell? ⟨bc, oc + m, none⟩ = some (.int .i64 (y : Int)) ∧ w'.cell? ⟨bc, oc + i, none⟩ = some (.int .i64 (z : Int)) ∧ Below wv.heap.size wv w' from fun w' hw => ⟨(HKP.out w' (HBV.out.trans (hw.mono HBV.out.size))).1, (HKP.out w' (HBV.out.trans (hw.mono HBV.out.size))).2, (hx01 w' hw).1, (hx01 w' hw).2, hw⟩)
            clear hm hnx htn hcr hA1 hA2 hx01
            go_wp2_with fail
            go_region_held3 (fun w' => w'.cell? ⟨Q, 0, none⟩ = some (.slice v.A1 d.k.length v.c1) ∧ w'.cell? ⟨Q, 1, none⟩ = some (.slice v.A2 d.e.length v.c2) ∧ w'.cell? ⟨bc, oc + m, none⟩ = some (.int .i64 (y : Int)) ∧ w'.cell? ⟨bc, oc + i, none⟩ = some (.int .i64 (z : Int)) ∧ Below wv.heap.size wv w')
              (first | (with_reducible assumption) | (with_reducible exact HK.out _ hbr) | (with_reducible exact HK.out _ hbd) | (with_reducible exact HK.out _ ba) | (with_reducible exact HK.out _ bb))
              (first
                | (go_at_call 17; (with_reducible refine (HA1.out _ ?_).mono ?_); (go_split_ands; with_reducible assumption); rintro e wa ⟨rfl, hba⟩; go_split_ands; have ba : Below wv.heap.size wv wa := Below.trans (by with_reducible assumption) (hba.mono (Below.size (by with_reducible assumption))); clear hba)
                | (go_at_call 26; (with_reducible refine (HA2.out _ ?_).mono ?_); (go_split_ands; with_reducible assumption); rintro e wb ⟨rfl, rfl⟩))
            go_split_ands
            have BA := Lib.hid ba
            clear ba
            go_wp2_with fail
            exact ⟨⟨i + 1, by omega, by omega, by go_num, HEV.out.trans (BA.out.mono HEV.out.size)⟩, by simp [intOf]; omega⟩
          · obtain rfl : i = c.length := by omega
            obtain ⟨m, hm⟩ : ∃ m, c.length = m + 1 := ⟨c.length - 1, by omega⟩
            have hfin := HCW.out.fin
            rw [show c.length - 1 = m by omega] at hfin
            have hA1 := fun w' (hw : Below wv.heap.size wv w') => HOF.out (c.getD m 0) w' (HBV.out.trans (hw.mono HBV.out.size))
            have hx01 : ∀ w', Below wv.heap.size wv w' → w'.cell? ⟨bc, oc + m, none⟩ = some (.int .i64 ((c.getD m 0 : Nat) : Int)) := fun w' hw => by
              obtain ⟨b4, o4, hA4, -, -, q0⟩ := (HRV.out.below hw).int (i := m) (by omega)
              cases hA4
              exact q0
            have htl : 1 < c.length → f (c.getD m 0) = -1 → Wy f d.k.length (c.getD 1 0) c.tail := fun h1 h2 => tail_wy HCW.out h1 (by rw [show c.length - 1 = m by omega]; exact h2)
            have HTL := Lib.hid htl
            generalize c.getD m 0 = y at *
            have HA1 := Lib.hid hA1
            have hw1 : IntKind.i64.wrap ((c.length : Int) - 1) = (m : Int) := by rw [IntWalk.i64_in _ (by omega)]; omega
            have hw2 : (c.length : Int) - 1 = (m : Int) := by omega
            have hw3 : IntKind.i64.wrap (m : Int) = (m : Int) := IntWalk.i64_in _ (by omega)
            have m0' : (0 : Int) ≤ (m : Int) := by omega
            have m1' : (m : Int) < (c.length : Int) := by omega
            have HK := Lib.hid (show ∀ w', Below wv.heap.size wv w' → w'.cell? ⟨Q, 0, none⟩ = some (.slice v.A1 d.k.length v.c1) ∧ w'.cell? ⟨Q, 1, none⟩ = some (.slice v.A2 d.e.length v.c2) ∧ w'.cell? ⟨bc, oc + m, none⟩ = some (.int .i64 (y : Int)) ∧ Below wv.heap.size wv w' from fun w' hw => ⟨(HKP.out w' (HBV.out.trans (hw.mono HBV.out.size))).1, (HKP.out w' (HBV.out.trans (hw.mono HBV.out.size))).2, hx01 w' hw, hw⟩)
            have HFIN := Lib.hid hfin
            have HM := Lib.hid hm
            generalize f y = la at *
            clear hm hA1 hx01 htl hfin
            go_wp2_with fail
            go_region_held3 (fun w' => w'.cell? ⟨Q, 0, none⟩ = some (.slice v.A1 d.k.length v.c1) ∧ w'.cell? ⟨Q, 1, none⟩ = some (.slice v.A2 d.e.length v.c2) ∧ w'.cell? ⟨bc, oc + m, none⟩ = some (.int .i64 (y : Int)) ∧ Below wv.heap.size wv w')
              (first | (with_reducible assumption) | (with_reducible exact HK.out _ hbr) | (with_reducible exact HK.out _ hbd) | (with_reducible exact HK.out _ ba))
              (first
                | (go_at_call 17; (with_reducible refine (HA1.out _ ?_).mono ?_); (go_split_ands; with_reducible assumption); rintro e wa ⟨rfl, hba⟩; go_split_ands; have ba : Below wv.heap.size wv wa := Below.trans (by with_reducible assumption) (hba.mono (Below.size (by with_reducible assumption))); clear hba))
            go_split_ands
            have BQ := Lib.hid (HBV.out.trans (ba.mono HBV.out.size))
            have HRQ := Lib.hid (HRV.out.below ba)
            have HOK2 := Lib.hid (HON.out k hlk _ BQ.out)
            have HOV1 := Lib.hid (HOV.out k c HCW.out)
            obtain ⟨k0, k1⟩ := HKP.out _ BQ.out
            clear ba hbr hbd HK hw1 hw2 hw3 g0 g1
            generalize wa = wq at *
            by_cases hla : la = -1
            · subst hla
              have e3 : ((-1 : Int) != -1) = false := rfl
              have e4 : ((-1 : Int) == -1) = true := rfl
              clear HFIN
              have hhd := HCW.out.hd
              by_cases hl1 : 1 < c.length
              · have hd1 : decide ((1 : Int) < (c.length : Int)) = true := decide_eq_true (by omega)
                have hc1n := HCW.out.get hl1
                have hOT := HOV.out _ _ (HTL.out hl1 rfl)
                by_cases hk1 : kd d k = 1
                · have hob : (oV k).isSome = true := by rw [HOV1.out]; exact fp_head (by omega) (by rw [hhd]; exact hk1)
                  rw [hob] at HOK2
                  have k9 : (((kd d k : Nat) : Int) == 1) = true := by rw [hk1]; rfl
                  generalize (oV k).getD 0 = ov at *
                  clear hob hk1 hOT hhd HOV1 HTL
                  go_wp2_with (go_at_call 15; (with_reducible refine HOK2.out.mono ?_); rintro e wo ⟨rfl, hbo⟩; have HBO := Lib.hid (BQ.out.trans (hbo.mono BQ.out.size)); have HRO := Lib.hid (HRQ.out.below hbo); obtain ⟨m0, m1⟩ := HKP.out _ HBO.out; obtain ⟨bk, ok, hAk, -, -, x1⟩ := (HDN.out.below HBO.out).r1.int hlk; rw [hAk] at m0; have x2 : wo.cell? ⟨bk, ok + k, none⟩ = some (.int .i64 ((kd d k : Nat) : Int)) := x1; clear x1; have HAK := Lib.hid hAk; clear hbo hAk)
                  exact ⟨⟨k + 1, by omega, by go_num, HBO.out⟩, by simp [intOf]; omega⟩
                · have k9 : (((kd d k : Nat) : Int) == 1) = false := beq_eq_false_iff_ne.2 (by omega)
                  have hsame : oV (c.getD 1 0) = oV k := by rw [hOT, tail_fp hl1 (by rw [hhd]; exact hk1), HOV1.out]
                  have hN := fun w' hw => HON.out (c.getD 1 0) hc1n w' hw
                  rw [hsame] at hN
                  have HN := Lib.hid hN
                  have hne : (((oV k).getD 0 : Int) != ((oV k).getD 0 : Int)) = false := by simp
                  cases hob : (oV k).isSome with
                  | false =>
                    rw [hob] at HOK2
                    generalize (oV k).getD 0 = ov at *
                    clear hob hk1 hOT hhd HOV1 HTL hsame hN HN hne
                    go_wp2_with (go_at_call 15; (with_reducible refine HOK2.out.mono ?_); rintro e wo ⟨rfl, hbo⟩; have HBO := Lib.hid (BQ.out.trans (hbo.mono BQ.out.size)); have HRO := Lib.hid (HRQ.out.below hbo); obtain ⟨m0, m1⟩ := HKP.out _ HBO.out; obtain ⟨bk, ok, hAk, -, -, x1⟩ := (HDN.out.below HBO.out).r1.int hlk; rw [hAk] at m0; have x2 : wo.cell? ⟨bk, ok + k, none⟩ = some (.int .i64 ((kd d k : Nat) : Int)) := x1; clear x1; have HAK := Lib.hid hAk; clear hbo hAk)
                    exact ⟨⟨k + 1, by omega, by go_num, HBO.out⟩, by simp [intOf]; omega⟩
                  | true =>
                    rw [hob] at HOK2 HN
                    generalize (oV k).getD 0 = ov at *
                    clear hob hk1 hOT hhd HOV1 HTL hsame hN
                    go_wp2_with (go_at_call 15; (with_reducible refine HOK2.out.mono ?_); rintro e wo ⟨rfl, hbo⟩; have HBO := Lib.hid (BQ.out.trans (hbo.mono BQ.out.size)); have HRO := Lib.hid (HRQ.out.below hbo); obtain ⟨m0, m1⟩ := HKP.out _ HBO.out; obtain ⟨bk, ok, hAk, -, -, x1⟩ := (HDN.out.below HBO.out).r1.int hlk; rw [hAk] at m0; have x2 : wo.cell? ⟨bk, ok + k, none⟩ = some (.int .i64 ((kd d k : Nat) : Int)) := x1; clear x1; have HAK := Lib.hid hAk; clear hbo hAk)
                    have hx01 : ∀ w', Below wo.heap.size wo w' → w'.cell? ⟨bc, oc + 1, none⟩ = some (.int .i64 ((c.getD 1 0 : Nat) : Int)) := fun w' hw => by
                      obtain ⟨b4, o4, hA4, -, -, q0⟩ := (HRO.out.below hw).int (i := 1) hl1
                      cases hA4
                      exact q0
                    generalize c.getD 1 0 = y1 at *
                    have HK := Lib.hid (show ∀ w', Below wo.heap.size wo w' → w'.cell? ⟨Q, 0, none⟩ = some (.slice v.A1 d.k.length v.c1) ∧ w'.cell? ⟨Q, 1, none⟩ = some (.slice v.A2 d.e.length v.c2) ∧ w'.cell? ⟨bc, oc + 1, none⟩ = some (.int .i64 (y1 : Int)) ∧ Below wo.heap.size wo w' from fun w' hw => ⟨(HKP.out w' (HBO.out.trans (hw.mono HBO.out.size))).1, (HKP.out w' (HBO.out.trans (hw.mono HBO.out.size))).2, hx01 w' hw, hw⟩)
                    have HNN := Lib.hid (fun w' (hw : Below wo.heap.size wo w') => HN.out w' (HBO.out.trans (hw.mono HBO.out.size)))
                    have hbr : Below wo.heap.size wo wo := Below.refl _ _
                    have hbd : Below wo.heap.size wo wo.drew := hbr.drew
                    have i1' : (1 : Int) < (c.length : Int) := by omega
                    clear hx01 m0 m1 x2 HN
                    go_wp2_with fail
                    go_region_held3 (fun w' => w'.cell? ⟨Q, 0, none⟩ = some (.slice v.A1 d.k.length v.c1) ∧ w'.cell? ⟨Q, 1, none⟩ = some (.slice v.A2 d.e.length v.c2) ∧ w'.cell? ⟨bc, oc + 1, none⟩ = some (.int .i64 (y1 : Int)) ∧ Below wo.heap.size wo w')
                      (first | (with_reducible assumption) | (with_reducible exact HK.out _ hbr) | (with_reducible exact HK.out _ hbd) | (with_reducible exact HK.out _ bz))
                      (first
                        | (go_at_call 15; (with_reducible refine (HNN.out _ ?_).mono ?_); (go_split_ands; with_reducible assumption); rintro e wz ⟨rfl, hbz⟩; go_split_ands; have bz : Below wo.heap.size wo wz := Below.trans (by with_reducible assumption) (hbz.mono (Below.size (by with_reducible assumption))); clear hbz))
                    go_split_ands
                    have BZ := Lib.hid (HBO.out.trans (bz.mono HBO.out.size))
                    clear bz hbr hbd HK
                    go_wp2_with fail
                    exact ⟨⟨k + 1, by omega, by go_num, BZ.out⟩, by simp [intOf]; omega⟩
              · have hd1 : decide ((1 : Int) < (c.length : Int)) = false := decide_eq_false (by omega)
                generalize (oV k).isSome = ob at *
                generalize (oV k).getD 0 = ov at *
                clear hhd HOV1 HTL
                go_wp2_with (go_at_call 15; (with_reducible refine HOK2.out.mono ?_); rintro e wo ⟨rfl, hbo⟩; have HBO := Lib.hid (BQ.out.trans (hbo.mono BQ.out.size)); have HRO := Lib.hid (HRQ.out.below hbo); obtain ⟨m0, m1⟩ := HKP.out _ HBO.out; obtain ⟨bk, ok, hAk, -, -, x1⟩ := (HDN.out.below HBO.out).r1.int hlk; rw [hAk] at m0; have x2 : wo.cell? ⟨bk, ok + k, none⟩ = some (.int .i64 ((kd d k : Nat) : Int)) := x1; clear x1; have HAK := Lib.hid hAk; clear hbo hAk)
                exact ⟨⟨k + 1, by omega, by go_num, HBO.out⟩, by simp [intOf]; omega⟩
            · obtain ⟨x, hx, hxe⟩ := HFIN.out.resolve_left hla
              have hHS := has_any c x _ c.length kc wq (HRQ.out.base (Nat.zero_le _)) (by omega)
              have hmx : anyB (fun j => c.getD j 0 == x) c.length = true := (any_iff _ _).2 (by
                obtain ⟨j, hj, rfl⟩ := List.getElem_of_mem hx
                exact ⟨j, hj, beq_iff_eq.2 (by rw [List.getD_eq_getElem?_getD, List.getElem?_eq_getElem hj]; rfl)⟩)
              rw [hmx] at hHS
              have HHS := Lib.hid hHS
              subst hxe
              have e3 : ((x : Int) != -1) = true := by rw [bne, beq_eq_false_iff_ne.2 hla]; rfl
              have e4 : ((x : Int) == -1) = false := beq_eq_false_iff_ne.2 hla
              generalize (oV k).isSome = ob at *
              generalize (oV k).getD 0 = ov at *
              clear hla hx hHS hmx HFIN HTL HOV1
              go_wp2_with (first
                | (go_at_call 26; (with_reducible refine HHS.out.mono ?_); rintro e wf ⟨rfl, rfl⟩)
                | (go_at_call 15; (with_reducible refine HOK2.out.mono ?_); rintro e wo ⟨rfl, hbo⟩; have HBO := Lib.hid (BQ.out.trans (hbo.mono BQ.out.size)); clear hbo))
              exact ⟨⟨k + 1, by omega, by go_num, HBO.out⟩, by simp [intOf]; omega⟩
      · obtain rfl : k = d.k.length := by omega
        have HBZ := Lib.hid (BN.out.trans (HBL.out.mono BN.out.size))
        clear hbl
        go_wp2_with (go_at_call 8; refine (awake_any _).mono ?_; rintro e w9 ⟨rfl, hb9⟩; have HB9 := Lib.hid (HBZ.out.trans (hb9.mono HBZ.out.size)); clear hb9)
        go_ret
        exact ⟨rfl, HB9.out⟩

/-! ### THE ROW's STEP: WRITTEN OUT: LEAVE IT -/
set_option maxRecDepth 100000 in
theorem lifted (os : Os) (started : os.Started) (H : Type) (enc : TypeId × Value → H) :
    ReturnsInHanded {} Try.checked os 5 .any (Rows.ownersWaysSpec.pre6 enc Try.prog Try.f5 Rows.ownersWaysRow.domain false) (Rows.ownersWaysSpec.post enc Try.prog Try.f5 false true false false) := by
  refine returnsInHanded_of_change (C := Try.checked) own started (by kernel_rfl) Try.func5
    (ChangeSpec.witness6 (enc := enc) (C := Try.checked) false ⟨#[], #[.slice none 0 0], []⟩ 8 (by kernel_rfl) (by kernel_rfl) (by kernel_rfl) (by kernel_rfl)) ?_
  intro W base args ds gs before hval0 hW hcnd _
  have hval : ∀ (j : Nat) t v, Try.f5.params[j]? = some t → args[j]? = some v → Value.okWide Try.prog W .any base t v := hval0
  have hW' := hW
  obtain ⟨p, q, hA0, hV, rfl, hfz, hnd⟩ := hW
  have hA : DataW.TrodAll enc Try.prog W 0 (fun _ => true) true Try.f5.params.toList args.toList ds p := hA0
  rw [Try.params5] at hA hval
  obtain ⟨v0, vs0, d0, ds0, p0, q0, hargs, rfl, rfl, h0, r0⟩ := trodAll_cons hA
  obtain ⟨rfl, rfl, rfl⟩ := trodAll_nil r0
  obtain rfl : args = #[v0] := by cases args; simp_all
  obtain ⟨rfl, rfl⟩ := trodVars_none hV
  obtain ⟨a0, len0, cap0, rfl⟩ := okWide_slice Try.underlying22 (hval 0 22 v0 rfl rfl)
  have k0 := h0
  have lt0 : ∀ x ∈ p0, x.block < W.heap.size := by obtain ⟨m, hm⟩ := k0; exact DataW.trod_lt m _ _ _ hm
  obtain ⟨z0, w0⟩ : ∃ zs, IsRow .i64 W a0 len0 cap0 zs := by
    obtain ⟨fuel, hf⟩ := h0
    rcases open_ints Try.underlying22 Try.underlying3 (by kernel_rfl) hf with ⟨hcs, _⟩ | ⟨x, l, c, zs, hcs, _, hl, hm, hz, _, hcell, hwz⟩
    · simp [Value.cells] at hcs
      obtain ⟨rfl, rfl, rfl⟩ := hcs
      exact ⟨[], .inl ⟨rfl, rfl, rfl, rfl⟩⟩
    · simp [Value.cells] at hcs
      obtain ⟨rfl, rfl, rfl⟩ := hcs
      exact ⟨zs, .inr ⟨_, rfl, hl, hm, by simpa using hz, hcell, hwz⟩⟩
  clear hA0 hval0
  refine (walk a0 len0 cap0 z0 W w0).mono fun e W' ⟨he, bel⟩ => ?_
  subst he
  exact ⟨_, rfl, _, _, _, [], _, [], hW', trodAll_mk1 (shut_bool Try.underlying4 _), (trodAll_cons_mk (Below.trod laidOut (by kernel_rfl) (of_decide_eq_true (by kernel_rfl)) k0 bel lt0) trodAll_mk0), rfl, bel.frame _, fun h => by cases h⟩

theorem over : Rows.ownersWaysRow.holds Try.pinned (OpenSpec.ofChange Rows.ownersWaysSpec) :=
  OpenClaim.holds_of_wide 5 Try.f5 rfl rfl rfl rfl rfl rfl rfl ⟨rfl, rfl, rfl, rfl, rfl⟩ rfl rfl rfl rfl rfl (by kernel_rfl) Try.func5 (by kernel_rfl)
    (of_decide_eq_true (by kernel_rfl)) (by unfold Func.isWrapper; first | (rw [if_pos (by decide +kernel)]; kernel_rfl) | (rw [if_neg (by decide +kernel)]; exact ⟨rfl, rfl⟩))
    (fun os started H enc _ => lifted os started H enc)

/-- ████ THE STATEMENT ████ -/
theorem proved : Rows.OwnersWaysSaid := over
#print axioms proved
end Go.Proofs.Ytlmpbfijgnkpkaa.ownersWays
