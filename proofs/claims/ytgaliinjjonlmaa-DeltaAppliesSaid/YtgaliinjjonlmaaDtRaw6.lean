import Derived.Test.YtgaliinjjonlmaaDtRaw5
namespace Go.Proofs.Ytgaliinjjonlmaa.Dt
open Go.RowKit
open Go.Proofs.Ytgaliinjjonlmaa.Tp
set_option linter.unusedVariables false

def wrg (N : Nat) (r : R) : Bool := !rightB N r.f r.s r.d.length
/-- What Check answers. -/
def chk (rs : List R) (n N : Nat) : Int := if 200 < n then 3 else if 65536 < tt rs n then 3 else if anyR (wrg N) rs n = true then 2 else 0

set_option maxRecDepth 100000 in
set_option maxHeartbeats 1000000 in
theorem index_wrg (A C : Option Addr) (n c N cb g : Nat) (rs : List R) (vs : List Value) (w : World) (h : RLies w A n rs vs) (hn : n ≤ 1000) (hg : w.cell? ⟨g, 0, none⟩ = some (.slice C N cb)) (hlt : g < w.heap.size) (hN : N ≤ 70000) :
    Calls Try.prog 77 #[.slice A n c, .func (.func 51) #[] #[.pointer (some ⟨g, 0, none⟩)]] w fun e w' => ∃ r : Int, e = .returned (.int .i64 r) ∧ decide (0 ≤ r) = anyR (wrg N) rs n ∧ Below w.heap.size w w' := by
  have H := Lib.hid h
  have HG := Lib.hid hg
  clear h hg
  go_enter Try.func77, Try.ntmps77
  go_wp2
  go_loopw [8] (fun ii wr => ∃ i : Nat, i ≤ n ∧ ii = .int .i64 i ∧ (∀ j, j < i → wrg N (rs.getD j r0) = false) ∧ Below w.heap.size w wr) (fun ii _ => n - (intOf ii).toNat)
  case atStart => exact ⟨0, by omega, rfl, fun j hj => absurd hj (by omega), Below.refl _ _⟩
  case round =>
    obtain ⟨i, hi, rfl, hno, hbl⟩ := hrel
    have HBL := Lib.hid hbl
    have HNO := Lib.hid hno
    by_cases hlt2 : i < n
    · obtain ⟨b, off, rfl, hbk, hc⟩ := (H.out.below hbl).mem (by omega)
      obtain ⟨c0, c1, c2⟩ := hc i hlt2
      obtain ⟨B, cc, hv⟩ := (H.out.by_ i hlt2).form
      rw [hv] at c2
      have HE := wrong_raw (rs.getD i r0).f (rs.getD i r0).s B (rs.getD i r0).d.length cc C N cb g wr ((hbl.cell (p := ⟨g, 0, none⟩) hlt).trans HG.out) (Nat.lt_of_lt_of_le hlt hbl.size) hN
      obtain ⟨q, hq⟩ : ∃ q, wrg N (rs.getD i r0) = q := ⟨_, rfl⟩
      have hq2 := hq
      unfold wrg at hq2
      rw [hq2] at HE
      have HE2 := Lib.hid HE
      have HQ := Lib.hid hq
      have HQ1 : Hid (q = false → ∀ j, j < i + 1 → wrg N (rs.getD j r0) = false) := Lib.hid (fun e => no_more hno (by rw [hq, e]))
      have HQ2 : Hid (q = true → anyR (wrg N) rs n = true) := Lib.hid (fun e => anyR_yes hlt2 (by rw [hq, e]))
      clear hc hbl hv hno hq hq2 HE HQ
      generalize (rs.getD i r0) = o at *
      cases q
      · go_wp2_with (go_at_call 51; refine HE2.out.mono ?_; rintro e w2 ⟨rfl, hb2⟩; have HB2 := Lib.hid (HBL.out.trans (hb2.mono HBL.out.size)); clear hb2)
        exact ⟨⟨i + 1, by omega, by go_num, HQ1.out (by simp), HB2.out⟩, by simp [intOf]; omega⟩
      · go_wp2_with (go_at_call 51; refine HE2.out.mono ?_; rintro e w2 ⟨rfl, hb2⟩; have HB2 := Lib.hid (HBL.out.trans (hb2.mono HBL.out.size)); clear hb2)
        go_ret
        exact ⟨i, rfl, by rw [HQ2.out (by simp)]; simp, HB2.out⟩
    · obtain rfl : n = i := by omega
      go_wp2
      go_ret
      exact ⟨-1, rfl, by rw [anyR_none HNO.out]; simp, HBL.out⟩

set_option maxRecDepth 100000 in
set_option maxHeartbeats 400000 in
theorem contains_wrg (A C : Option Addr) (n c N cb g : Nat) (rs : List R) (vs : List Value) (w : World) (h : RLies w A n rs vs) (hn : n ≤ 1000) (hg : w.cell? ⟨g, 0, none⟩ = some (.slice C N cb)) (hlt : g < w.heap.size) (hN : N ≤ 70000) :
    Calls Try.prog 54 #[.slice A n c, .func (.func 51) #[] #[.pointer (some ⟨g, 0, none⟩)]] w fun e w' => e = .returned (.bool (anyR (wrg N) rs n)) ∧ Below w.heap.size w w' := by
  have HC := Lib.hid (index_wrg A C n c N cb g rs vs w h hn hg hlt hN)
  clear h hg
  go_enter Try.func54, Try.ntmps54
  go_wp2_with (go_at_call 77; refine HC.out.mono ?_; rintro e w' ⟨r, rfl, hr, hb⟩; have HR := Lib.hid hr; have HB := Lib.hid hb; clear hb hr)
  go_ret
  exact ⟨by rw [← HR.out]; rfl, HB.out⟩

set_option maxRecDepth 100000 in
set_option maxHeartbeats 1000000 in
theorem check_raw (A B : Option Addr) (n c N cb : Nat) (rs : List R) (vs : List Value) (w : World) (h : RLies w A n rs vs) (hn : n ≤ 220) (hN : N ≤ 60000) :
    Calls Try.prog 22 #[.slice B N cb, .slice A n c] w fun e w' => e = .returned (.int .i64 (chk rs n N)) ∧ Below w.heap.size w w' := by
  have HB0 := Lib.hid (box_below w (.cells #[.slice B N cb] 23))
  have HR0 := Lib.hid (heap_alloc_new w (.cells #[.slice B N cb] 23))
  have K1 := Lib.hid (fun w' (hw : Below w.heap.size w w') => made_raw A n c rs vs w' (h.below hw) (by omega))
  have K2 := Lib.hid (fun w' (hw : Below w.heap.size w w') (hg : w'.cell? ⟨w.heap.size, 0, none⟩ = some (.slice B N cb)) (hlt : w.heap.size < w'.heap.size) => contains_wrg A B n c N cb w.heap.size rs vs w' (h.below hw) (by omega) hg hlt (by omega))
  clear h
  by_cases h200 : 200 < n
  · have hi : (200 : Int) < (n : Int) := by omega
    have HE : Hid (chk rs n N = 3) := Lib.hid (if_pos h200)
    rw [HE.out]
    go_enter Try.func22, Try.ntmps22
    go_wp2_with fail
    go_ret
    exact ⟨rfl, HB0.out⟩
  have hi : ¬ (200 : Int) < (n : Int) := by omega
  have hNi : ¬ (65536 : Int) < (N : Int) := by omega
  obtain ⟨t, ht⟩ : ∃ t, tt rs n = t := ⟨_, rfl⟩
  obtain ⟨q, hq⟩ : ∃ q, anyR (wrg N) rs n = q := ⟨_, rfl⟩
  have HE : Hid (chk rs n N = if 65536 < t then 3 else if q = true then 2 else 0) := Lib.hid (by unfold chk; rw [if_neg h200, ht, hq])
  rw [ht] at K1
  rw [hq] at K2
  clear ht hq
  rw [HE.out]
  by_cases h65 : 65536 < t
  · rw [if_pos h65]
    go_enter Try.func22, Try.ntmps22
    go_wp2_with fail
    refine (K1.out _ HB0.out).mono ?_
    rintro e w1 ⟨m, rfl, hm0, hm1, hm, hb1⟩
    have hm2 : 65536 < m := hm.2 h65
    have HB1 := Lib.hid (HB0.out.trans (hb1.mono HB0.out.size))
    clear hm hb1
    go_wp2_with fail
    go_ret
    exact ⟨rfl, HB1.out⟩
  · rw [if_neg h65]
    go_enter Try.func22, Try.ntmps22
    go_wp2_with fail
    refine (K1.out _ HB0.out).mono ?_
    rintro e w1 ⟨m, rfl, hm0, hm1, hm, hb1⟩
    have hm2 : ¬ 65536 < m := fun h => by have := hm.1 h; omega
    have HR1 := Lib.hid ((hb1.block w.heap.size (by simp)).trans HR0.out)
    have HB1 := Lib.hid (HB0.out.trans (hb1.mono HB0.out.size))
    clear hm hb1
    cases q
    · go_wp2_with (go_at_call 54; refine (K2.out _ HB1.out (by rw [cell_of_row _ _ _ _ _ _ HR1.out]; rfl) (row_lt HR1.out)).mono ?_; rintro e w2 ⟨rfl, hb2⟩; have HB2 := Lib.hid (HB1.out.trans (hb2.mono HB1.out.size)); clear hb2)
      go_ret
      exact ⟨rfl, HB2.out⟩
    · go_wp2_with (go_at_call 54; refine (K2.out _ HB1.out (by rw [cell_of_row _ _ _ _ _ _ HR1.out]; rfl) (row_lt HR1.out)).mono ?_; rintro e w2 ⟨rfl, hb2⟩; have HB2 := Lib.hid (HB1.out.trans (hb2.mono HB1.out.size)); clear hb2)
      go_ret
      exact ⟨rfl, HB2.out⟩

set_option maxRecDepth 100000 in
set_option maxHeartbeats 2000000 in
theorem refcheck_raw (A B : Option Addr) (n c N cb : Nat) (rs : List R) (vs : List Value) (w : World) (h : RLies w A n rs vs) (hn : n ≤ 220) (hN : N ≤ 60000) :
    Calls Try.prog 25 #[.slice B N cb, .slice A n c] w fun e w' => e = .returned (.int .i64 (chk rs n N)) ∧ Below w.heap.size w w' := by
  have H := Lib.hid h
  clear h
  by_cases h200 : 200 < n
  · have hi : (200 : Int) < (n : Int) := by omega
    have HE : Hid (chk rs n N = 3) := Lib.hid (if_pos h200)
    rw [HE.out]
    go_enter Try.func25, Try.ntmps25
    go_wp2_with fail
    go_ret
    exact ⟨rfl, Below.refl _ _⟩
  have hi : ¬ (200 : Int) < (n : Int) := by omega
  have hNi : ¬ (65536 : Int) < (N : Int) := by omega
  have HE1 : Hid (65536 < tt rs n → chk rs n N = 3) := Lib.hid (fun h => by unfold chk; rw [if_neg h200, if_pos h])
  have HE2 : Hid (tt rs n ≤ 65536 → anyR (wrg N) rs n = true → chk rs n N = 2) := Lib.hid (fun h h2 => by unfold chk; rw [if_neg h200, if_neg (by omega), if_pos h2])
  have HE3 : Hid (tt rs n ≤ 65536 → anyR (wrg N) rs n = false → chk rs n N = 0) := Lib.hid (fun h h2 => by unfold chk; rw [if_neg h200, if_neg (by omega), h2]; rfl)
  generalize chk rs n N = ck at *
  go_enter Try.func25, Try.ntmps25
  go_wp2_with fail
  go_loopw [5, 6] (fun ll ii wr => ∃ i : Nat, i ≤ n ∧ ii = .int .i64 i ∧ ll = .int .i64 (65536 - tt rs i) ∧ tt rs i ≤ 65536 ∧ Below w.heap.size w wr) (fun _ ii _ => n - (intOf ii).toNat)
  case atStart => exact ⟨0, by omega, rfl, by simp [tt], by simp [tt], Below.refl _ _⟩
  case round =>
    obtain ⟨i, hi2, rfl, rfl, htt, hbl⟩ := hrel
    have HBL := Lib.hid hbl
    by_cases hlt2 : i < n
    · obtain ⟨b, off, rfl, hbk, hc⟩ := (H.out.below hbl).mem (by omega)
      obtain ⟨c0, c1, c2⟩ := hc i hlt2
      obtain ⟨X, cc, hv⟩ := (H.out.by_ i hlt2).form
      have e1 : tt rs (i + 1) = tt rs i + amt (rs.getD i r0) := rfl
      have hap := amt_pos (rs.getD i r0)
      have htp := tt_pos rs i
      have hmono := tt_mono rs (i + 1) n (by omega)
      have ha1 : ∀ W, Calls Try.prog 56 #[.agg #[.int .i64 (rs.getD i r0).f, .int .i64 (rs.getD i r0).s, .slice X (rs.getD i r0).d.length cc]] W fun e w' => e = .returned (.int .i64 (amt (rs.getD i r0))) ∧ Below W.heap.size W w' := fun W => amount_raw _ _ X _ cc W
      rw [hv] at c2
      have hce := fun W (hW : Below wr.heap.size wr W) => (show W.cell? ⟨b, off + i * 3, none⟩ = _ ∧ W.cell? ⟨b, off + i * 3 + 1, none⟩ = _ ∧ W.cell? ⟨b, off + i * 3 + 2, none⟩ = _ from ⟨(hW.cell (p := ⟨b, _, none⟩) hbk).trans c0, (hW.cell (p := ⟨b, _, none⟩) hbk).trans c1, (hW.cell (p := ⟨b, _, none⟩) hbk).trans c2⟩)
      have HCE := Lib.hid hce
      have HA := Lib.hid ha1
      have HTT : Hid (∀ q, q = i + 1 → tt rs q = tt rs i + amt (rs.getD i r0)) := Lib.hid (fun q hq => by rw [hq]; exact e1)
      have HMN : Hid (tt rs i + amt (rs.getD i r0) ≤ tt rs n) := Lib.hid (by rw [← e1]; exact hmono)
      clear hc hbl hv e1 hmono hce ha1
      generalize amt (rs.getD i r0) = a at *
      generalize tt rs i = z at *
      go_wp2_with fail
      refine (HA.out _).mono ?_
      rintro e w3 ⟨rfl, hb3⟩
      obtain ⟨c0', c1', c2'⟩ := HCE.out w3 hb3
      have HB3 := Lib.hid hb3
      clear hb3 c0 c1 c2
      by_cases hgt : 65536 - z < a
      · have HX := Lib.hid (HE1.out (by have := HMN.out; omega))
        go_wp2_with fail
        go_ret
        exact ⟨by rw [HX.out]; rfl, HBL.out.trans (HB3.out.mono HBL.out.size)⟩
      · go_wp2_with fail
        refine (HA.out _).mono ?_
        rintro e w4 ⟨rfl, hb4⟩
        have HB4 := Lib.hid (HBL.out.trans ((HB3.out.trans (hb4.mono HB3.out.size)).mono HBL.out.size))
        clear hb4 c0' c1' c2'
        go_wp2_with fail
        exact ⟨⟨i + 1, by omega, by go_num, by rw [HTT.out _ rfl]; go_num, by rw [HTT.out _ rfl]; omega, HB4.out⟩, by simp [intOf]; omega⟩
    · obtain rfl : n = i := by omega
      have HNT := Lib.hid htt
      clear htt hbl HE1
      go_wp2_with fail
      go_loopw [7] (fun ii wr => ∃ i : Nat, i ≤ n ∧ ii = .int .i64 i ∧ (∀ j, j < i → wrg N (rs.getD j r0) = false) ∧ Below w.heap.size w wr) (fun ii _ => n - (intOf ii).toNat)
      case atStart => exact ⟨0, by omega, rfl, fun j hj => absurd hj (by omega), HBL.out⟩
      case round =>
        obtain ⟨i, hi2, rfl, hno, hbl⟩ := hrel
        have HBM := Lib.hid hbl
        have HNO := Lib.hid hno
        by_cases hlt3 : i < n
        · obtain ⟨b, off, rfl, hbk, hc⟩ := (H.out.below hbl).mem (by omega)
          obtain ⟨c0, c1, c2⟩ := hc i hlt3
          obtain ⟨X, cc, hv⟩ := (H.out.by_ i hlt3).form
          rw [hv] at c2
          have hr := fun W => right_raw N (rs.getD i r0).f (rs.getD i r0).s X (rs.getD i r0).d.length cc W (by omega) (by omega)
          obtain ⟨q, hq⟩ : ∃ q, rightB N (rs.getD i r0).f (rs.getD i r0).s (rs.getD i r0).d.length = q := ⟨_, rfl⟩
          rw [hq] at hr
          have HR := Lib.hid hr
          have HQ1 : Hid (q = true → ∀ j, j < i + 1 → wrg N (rs.getD j r0) = false) := Lib.hid (fun e => no_more hno (by unfold wrg; rw [hq, e]; rfl))
          have HQ2 : Hid (q = false → ck = 2) := Lib.hid (fun e => HE2.out HNT.out (anyR_yes hlt3 (by unfold wrg; rw [hq, e]; rfl)))
          clear hc hbl hbk hv hr hq hno
          generalize rs.getD i r0 = o at *
          cases q
          · have HX := Lib.hid (HQ2.out rfl)
            go_wp2_with fail
            refine (HR.out _).mono ?_
            rintro e w3 ⟨rfl, hb3⟩
            have HB3 := Lib.hid (HBM.out.trans (hb3.mono HBM.out.size))
            clear hb3
            go_wp2_with fail
            go_ret
            exact ⟨by rw [HX.out]; rfl, HB3.out⟩
          · have HX := Lib.hid (HQ1.out rfl)
            go_wp2_with fail
            refine (HR.out _).mono ?_
            rintro e w3 ⟨rfl, hb3⟩
            have HB3 := Lib.hid (HBM.out.trans (hb3.mono HBM.out.size))
            clear hb3
            go_wp2_with fail
            exact ⟨⟨i + 1, by omega, by go_num, HX.out, HB3.out⟩, by simp [intOf]; omega⟩
        · obtain rfl : n = i := by omega
          have HX := Lib.hid (HE3.out HNT.out (anyR_none hno))
          clear hno hbl
          go_wp2_with fail
          go_ret
          exact ⟨by rw [HX.out]; rfl, HBM.out⟩

end Go.Proofs.Ytgaliinjjonlmaa.Dt
