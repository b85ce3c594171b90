import Derived.Test.YtgaliinjjonlmaaDtRaw2
import Derived.Test.YtgaliinjjonlmaaDtRaw4
namespace Go.Proofs.Ytgaliinjjonlmaa.Dt
open Go.RowKit
open Go.Proofs.Ytgaliinjjonlmaa.Tp
set_option linter.unusedVariables false

/-- What an operation counts. -/
def amt (r : R) : Int := if 1 ≤ r.s then r.s else r.d.length
def tt (rs : List R) : Nat → Int
  | 0 => 0
  | n + 1 => tt rs n + amt (rs.getD n r0)

theorem amt_pos (r : R) : 0 ≤ amt r := by
  unfold amt
  split <;> omega

theorem tt_mono (rs : List R) : ∀ n m, n ≤ m → tt rs n ≤ tt rs m
  | n, 0, h => by
    obtain rfl : n = 0 := by omega
    exact Int.le_refl _
  | n, m + 1, h => by
    by_cases e : n = m + 1
    · rw [e]
      exact Int.le_refl _
    · have := tt_mono rs n m (by omega)
      have := amt_pos (rs.getD m r0)
      simp only [tt]
      omega

theorem tt_pos (rs : List R) (n : Nat) : 0 ≤ tt rs n := tt_mono rs 0 n (Nat.zero_le _)

set_option maxRecDepth 100000 in
set_option maxHeartbeats 1000000 in
theorem made_raw (A : Option Addr) (n c : Nat) (rs : List R) (vs : List Value) (w : World) (h : RLies w A n rs vs) (hn : n ≤ 1000) :
    Calls Try.prog 50 #[.slice A n c] w fun e w' => ∃ m : Int, e = .returned (.int .i64 m) ∧ 0 ≤ m ∧ m ≤ 65537 ∧ (65536 < m ↔ 65536 < tt rs n) ∧ Below w.heap.size w w' := by
  have H := Lib.hid h
  clear h
  go_enter Try.func50, Try.ntmps50
  go_wp2
  go_loopw [3, 9] (fun ss ii wr => ∃ (i : Nat) (m : Int), i ≤ n ∧ ii = .int .i64 i ∧ ss = .int .i64 m ∧ 0 ≤ m ∧ m ≤ 65537 ∧ (m = tt rs i ∨ (m = 65537 ∧ 65537 ≤ tt rs i)) ∧ Below w.heap.size w wr) (fun _ ii _ => n - (intOf ii).toNat)
  case atStart => exact ⟨0, 0, by omega, rfl, rfl, by omega, by omega, .inl rfl, Below.refl _ _⟩
  case round =>
    obtain ⟨i, m, hi, rfl, rfl, hm0, hm1, hmt, hbl⟩ := hrel
    have HBL := Lib.hid hbl
    by_cases hlt2 : i < n
    · obtain ⟨b, off, rfl, hbk, hc⟩ := (H.out.below hbl).mem (by omega)
      obtain ⟨c0, c1, c2⟩ := hc i hlt2
      obtain ⟨B, cc, hv⟩ := (H.out.by_ i hlt2).form
      have hkl := rb_len (H.out.by_ i hlt2)
      unfold maxLen at hkl
      rw [hv] at c2
      have e1 : tt rs (i + 1) = tt rs i + amt (rs.getD i r0) := rfl
      have hap := amt_pos (rs.getD i r0)
      clear hc hbl hv
      obtain ⟨⟨F, S, d⟩, ho⟩ : ∃ o, rs.getD i r0 = o := ⟨_, rfl⟩
      rw [ho] at c0 c1 c2 e1 hap hkl
      simp only at c0 c1 c2 hkl
      simp only [amt] at e1 hap
      have htp := tt_pos rs i
      generalize d.length = k at *
      have HF : Hid (∀ q, q = i + 1 → tt rs q = tt rs i + if 1 ≤ S then S else (k : Int)) := Lib.hid (fun q hq => by rw [hq]; exact e1)
      clear ho e1
      generalize tt rs i = z at *
      by_cases hS : 1 ≤ S
      · rw [if_pos hS] at HF hap
        have HMT := Lib.hid hmt
        by_cases q1 : S ≤ 65537
        · by_cases q2 : m + S ≤ 65537
          · clear hmt
            go_wp2_with fail
            refine ⟨⟨i + 1, m + S, by omega, by go_num, by go_num, by omega, by omega, ?_, HBL.out.trans ((box_below wr _).mono HBL.out.size)⟩, by simp [intOf]; omega⟩
            rw [HF.out _ rfl]
            have := HMT.out
            omega
          · clear hmt
            go_wp2_with fail
            refine ⟨⟨i + 1, 65537, by omega, by go_num, by go_num, by omega, by omega, ?_, HBL.out.trans ((box_below wr _).mono HBL.out.size)⟩, by simp [intOf]; omega⟩
            rw [HF.out _ rfl]
            have := HMT.out
            omega
        · clear hmt
          go_wp2_with fail
          refine ⟨⟨i + 1, 65537, by omega, by go_num, by go_num, by omega, by omega, ?_, HBL.out.trans ((box_below wr _).mono HBL.out.size)⟩, by simp [intOf]; omega⟩
          rw [HF.out _ rfl]
          have := HMT.out
          omega
      · rw [if_neg hS] at HF hap
        have HMT := Lib.hid hmt
        by_cases q1 : (k : Int) ≤ 65537
        · by_cases q2 : m + (k : Int) ≤ 65537
          · clear hmt
            go_wp2_with fail
            refine ⟨⟨i + 1, m + k, by omega, by go_num, by go_num, by omega, by omega, ?_, HBL.out.trans ((box_below wr _).mono HBL.out.size)⟩, by simp [intOf]; omega⟩
            rw [HF.out _ rfl]
            have := HMT.out
            omega
          · clear hmt
            go_wp2_with fail
            refine ⟨⟨i + 1, 65537, by omega, by go_num, by go_num, by omega, by omega, ?_, HBL.out.trans ((box_below wr _).mono HBL.out.size)⟩, by simp [intOf]; omega⟩
            rw [HF.out _ rfl]
            have := HMT.out
            omega
        · clear hmt
          go_wp2_with fail
          refine ⟨⟨i + 1, 65537, by omega, by go_num, by go_num, by omega, by omega, ?_, HBL.out.trans ((box_below wr _).mono HBL.out.size)⟩, by simp [intOf]; omega⟩
          rw [HF.out _ rfl]
          have := HMT.out
          omega
    · obtain rfl : n = i := by omega
      have HMT := Lib.hid hmt
      clear hmt
      go_wp2
      go_ret
      exact ⟨m, rfl, hm0, hm1, by have := HMT.out; omega, HBL.out⟩

set_option maxRecDepth 100000 in
set_option maxHeartbeats 1000000 in
theorem amount_raw (F S : Int) (A : Option Addr) (k c : Nat) (w : World) : Calls Try.prog 56 #[.agg #[.int .i64 F, .int .i64 S, .slice A k c]] w fun e w' => e = .returned (.int .i64 (if 1 ≤ S then S else (k : Int))) ∧ Below w.heap.size w w' := by
  have HB := Lib.hid (fun o => box_below w o)
  by_cases h1 : 1 ≤ S
  · rw [if_pos h1]
    go_enter Try.func56, Try.ntmps56
    go_wp2
    go_ret
    exact ⟨rfl, HB.out _⟩
  · rw [if_neg h1]
    go_enter Try.func56, Try.ntmps56
    go_wp2
    go_ret
    exact ⟨rfl, HB.out _⟩

theorem wrong_eq (N F S : Int) (k : Nat) : (!rightB N F S k) = (!insB F S k && !(cpyB F S k && decide (S ≤ N) && decide (F ≤ N - S))) := by
  rw [Bool.eq_iff_iff]
  simp only [rightB, insB, cpyB]
  by_cases h1 : 1 ≤ S
  · have h2 : ¬ S = 0 := by omega
    simp [h1, h2]
    omega
  · simp [h1]

set_option maxRecDepth 100000 in
set_option maxHeartbeats 1000000 in
theorem wrong_raw (F S : Int) (B : Option Addr) (k cc : Nat) (A : Option Addr) (N c g : Nat) (w : World) (hg : w.cell? ⟨g, 0, none⟩ = some (.slice A N c)) (hlt : g < w.heap.size) (hN : N ≤ 70000) :
    Calls Try.prog 51 #[.agg #[.int .i64 F, .int .i64 S, .slice B k cc], .pointer (some ⟨g, 0, none⟩)] w fun e w' => e = .returned (.bool (!rightB N F S k)) ∧ Below w.heap.size w w' := by
  have HB := Lib.hid (box_below w (.cells #[.int .i64 F, .int .i64 S, .slice B k cc] 54))
  have HR := Lib.hid (heap_alloc_new w (.cells #[.int .i64 F, .int .i64 S, .slice B k cc] 54))
  have hc : ∀ o, (w.alloc o).cell? ⟨g, 0, none⟩ = some (.slice A N c) := fun o => (World.cell?_alloc_lt _ _ _ hlt).trans hg
  have HC := Lib.hid hc
  clear hg
  obtain ⟨d0, d1, d2⟩ := opCells _ _ _ _ _ _ _ HR.out
  obtain ⟨p, hp⟩ : ∃ p, insB F S k = p := ⟨_, rfl⟩
  obtain ⟨q, hq⟩ : ∃ q, cpyB F S k = q := ⟨_, rfl⟩
  have HI : Hid (∀ W, Calls Try.prog 52 #[.agg #[.int .i64 F, .int .i64 S, .slice B k cc]] W fun e w' => e = .returned (.bool p) ∧ Below W.heap.size W w') := Lib.hid (fun W => by rw [← hp]; exact ins_raw F S B k cc W)
  have HY : Hid (∀ W, Calls Try.prog 53 #[.agg #[.int .i64 F, .int .i64 S, .slice B k cc]] W fun e w' => e = .returned (.bool q) ∧ Below W.heap.size W w') := Lib.hid (fun W => by rw [← hq]; exact cpy_raw F S B k cc W)
  have hw := wrong_eq N F S k
  rw [hp, hq] at hw
  have hq1 : q = true → 1 ≤ S := fun e => by rw [e] at hq; simp [cpyB] at hq; omega
  rw [hw]
  clear hw hp hq
  cases p
  · cases q
    · go_enter Try.func51, Try.ntmps51
      go_wp2_with (first
        | (go_at_call 52; refine (HI.out _).mono ?_; rintro e w1 ⟨rfl, hb1⟩; have hr1 := (hb1.block w.heap.size (by simp)).trans HR.out; have hc1 := (hb1.cell (p := ⟨g, 0, none⟩) (by simp; omega)).trans (HC.out _); have HB1 := Lib.hid (HB.out.trans (hb1.mono HB.out.size)); clear hb1 d0 d1 d2 hc; obtain ⟨d0, d1, d2⟩ := opCells _ _ _ _ _ _ _ hr1; have HR1 := Lib.hid hr1; clear hr1)
        | (go_at_call 53; refine (HY.out _).mono ?_; rintro e w2 ⟨rfl, hb2⟩; have HB2 := Lib.hid (HB1.out.trans (hb2.mono HB1.out.size)); clear hb2))
      go_ret
      exact ⟨by simp, HB2.out⟩
    · have hS := hq1 rfl
      clear hq1
      by_cases h1 : S ≤ (N : Int)
      · by_cases h2 : F ≤ (N : Int) - S
        · go_enter Try.func51, Try.ntmps51
          go_wp2_with (first
            | (go_at_call 52; refine (HI.out _).mono ?_; rintro e w1 ⟨rfl, hb1⟩; have hr1 := (hb1.block w.heap.size (by simp)).trans HR.out; have hc1 := (hb1.cell (p := ⟨g, 0, none⟩) (by simp; omega)).trans (HC.out _); have HB1 := Lib.hid (HB.out.trans (hb1.mono HB.out.size)); clear hb1 d0 d1 d2 hc; obtain ⟨d0, d1, d2⟩ := opCells _ _ _ _ _ _ _ hr1; have HR1 := Lib.hid hr1; clear hr1)
            | (go_at_call 53; refine (HY.out _).mono ?_; rintro e w2 ⟨rfl, hb2⟩; have hr2 := (hb2.block w.heap.size (row_lt HR1.out)).trans HR1.out; have hc2 := (hb2.cell (p := ⟨g, 0, none⟩) (Nat.lt_trans hlt (row_lt HR1.out))).trans hc1; have HB2 := Lib.hid (HB1.out.trans (hb2.mono HB1.out.size)); clear hb2 d0 d1 d2 hc1; obtain ⟨d0, d1, d2⟩ := opCells _ _ _ _ _ _ _ hr2; clear hr2))
          go_ret
          exact ⟨by simp [h1, h2], HB2.out⟩
        · go_enter Try.func51, Try.ntmps51
          go_wp2_with (first
            | (go_at_call 52; refine (HI.out _).mono ?_; rintro e w1 ⟨rfl, hb1⟩; have hr1 := (hb1.block w.heap.size (by simp)).trans HR.out; have hc1 := (hb1.cell (p := ⟨g, 0, none⟩) (by simp; omega)).trans (HC.out _); have HB1 := Lib.hid (HB.out.trans (hb1.mono HB.out.size)); clear hb1 d0 d1 d2 hc; obtain ⟨d0, d1, d2⟩ := opCells _ _ _ _ _ _ _ hr1; have HR1 := Lib.hid hr1; clear hr1)
            | (go_at_call 53; refine (HY.out _).mono ?_; rintro e w2 ⟨rfl, hb2⟩; have hr2 := (hb2.block w.heap.size (row_lt HR1.out)).trans HR1.out; have hc2 := (hb2.cell (p := ⟨g, 0, none⟩) (Nat.lt_trans hlt (row_lt HR1.out))).trans hc1; have HB2 := Lib.hid (HB1.out.trans (hb2.mono HB1.out.size)); clear hb2 d0 d1 d2 hc1; obtain ⟨d0, d1, d2⟩ := opCells _ _ _ _ _ _ _ hr2; clear hr2))
          go_ret
          exact ⟨by simp; omega, HB2.out⟩
      · go_enter Try.func51, Try.ntmps51
        go_wp2_with (first
          | (go_at_call 52; refine (HI.out _).mono ?_; rintro e w1 ⟨rfl, hb1⟩; have hr1 := (hb1.block w.heap.size (by simp)).trans HR.out; have hc1 := (hb1.cell (p := ⟨g, 0, none⟩) (by simp; omega)).trans (HC.out _); have HB1 := Lib.hid (HB.out.trans (hb1.mono HB.out.size)); clear hb1 d0 d1 d2 hc; obtain ⟨d0, d1, d2⟩ := opCells _ _ _ _ _ _ _ hr1; have HR1 := Lib.hid hr1; clear hr1)
          | (go_at_call 53; refine (HY.out _).mono ?_; rintro e w2 ⟨rfl, hb2⟩; have hr2 := (hb2.block w.heap.size (row_lt HR1.out)).trans HR1.out; have hc2 := (hb2.cell (p := ⟨g, 0, none⟩) (Nat.lt_trans hlt (row_lt HR1.out))).trans hc1; have HB2 := Lib.hid (HB1.out.trans (hb2.mono HB1.out.size)); clear hb2 d0 d1 d2 hc1; obtain ⟨d0, d1, d2⟩ := opCells _ _ _ _ _ _ _ hr2; clear hr2))
        go_ret
        exact ⟨by simp; omega, HB2.out⟩
  · go_enter Try.func51, Try.ntmps51
    go_wp2_with (go_at_call 52; refine (HI.out _).mono ?_; rintro e w1 ⟨rfl, hb1⟩; have HB1 := Lib.hid (HB.out.trans (hb1.mono HB.out.size)); clear hb1)
    go_ret
    exact ⟨by simp, HB1.out⟩

end Go.Proofs.Ytgaliinjjonlmaa.Dt
