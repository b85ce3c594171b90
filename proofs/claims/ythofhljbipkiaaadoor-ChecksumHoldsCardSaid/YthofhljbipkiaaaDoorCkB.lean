import Derived.Test.YthofhljbipkiaaaDoorCkA
namespace Go.Proofs.YthofhljbipkiaaaDoor.Ck
open Go.RowKit
set_option linter.unusedVariables false

set_option maxRecDepth 100000 in
set_option maxHeartbeats 800000 in
theorem digits_any (s : ByteArray) (w : World) (hs : s.size ≤ 100000) : Calls Tryd.prog 26 #[.string s] w fun e w' => e = .returned (.bool ((nums s).all isD)) ∧ w = w' := by
  have hL := Lib.hid (nums_length s)
  go_enter Tryd.func26, Tryd.ntmps26
  go_wp2
  go_loopw [3] (fun i w' => w' = w ∧ ∃ k : Nat, k ≤ s.size ∧ i = .int .i64 k ∧ ∀ j, j < k → isD ((nums s).getD j 0) = true) (fun i _ => s.size - (intOf i).toNat)
  case atStart => exact ⟨rfl, 0, by omega, rfl, fun _ h => by omega⟩
  case round =>
    obtain ⟨rfl, k, hk, rfl, hall⟩ := hrel
    have HALL := Lib.hid hall
    clear hall
    by_cases hlt : k < s.size
    · have hnb := nb_at s k hlt
      have HNB := Lib.hid (show nb s k = (nums s).getD k 0 from rfl)
      generalize nb s k = c at *
      have go_on : isD c = true → ∀ j, j < k + 1 → isD ((nums s).getD j 0) = true := by
        intro hd j hj
        by_cases hjk : j < k
        · exact HALL.out j hjk
        · obtain rfl : j = k := by omega
          rw [← HNB.out]
          exact hd
      have stop : isD c = false → (nums s).all isD = false := fun hd => not_all (P := isD) (by rw [hL.out]; exact hlt) (by rw [← HNB.out]; exact hd)
      have GO := Lib.hid go_on
      have ST := Lib.hid stop
      clear go_on stop
      by_cases c1 : c < 48
      · have d1 : decide ((c : Int) < 48) = true := by simp; omega
        go_wp2
        (go_ret; exact ⟨by rw [ST.out (by simp [isD]; omega)]; rfl, rfl⟩)
      · have d1 : decide ((c : Int) < 48) = false := by simp; omega
        by_cases c2 : 57 < c
        · have d2 : decide ((57 : Int) < c) = true := by simp; omega
          go_wp2
          (go_ret; exact ⟨by rw [ST.out (by simp [isD]; omega)]; rfl, rfl⟩)
        · have d2 : decide ((57 : Int) < c) = false := by simp; omega
          go_wp2
          exact ⟨⟨trivial, k + 1, by omega, by go_num, GO.out (by simp [isD]; omega)⟩, by simp [intOf]; omega⟩
    · obtain rfl : k = s.size := by omega
      have hfin := Lib.hid (all_to (P := isD) (bs := nums s) (fun j hj => HALL.out j (by rw [← hL.out]; exact hj)))
      go_wp2
      go_ret
      exact ⟨by rw [hfin.out]; rfl, rfl⟩

set_option maxRecDepth 100000 in
set_option maxHeartbeats 800000 in
theorem caps_any (s : ByteArray) (w : World) (hs : s.size ≤ 100000) : Calls Tryd.prog 27 #[.string s] w fun e w' => e = .returned (.bool ((nums s).all isDC)) ∧ w = w' := by
  have hL := Lib.hid (nums_length s)
  go_enter Tryd.func27, Tryd.ntmps27
  go_wp2
  go_loopw [3] (fun i w' => w' = w ∧ ∃ k : Nat, k ≤ s.size ∧ i = .int .i64 k ∧ ∀ j, j < k → isDC ((nums s).getD j 0) = true) (fun i _ => s.size - (intOf i).toNat)
  case atStart => exact ⟨rfl, 0, by omega, rfl, fun _ h => by omega⟩
  case round =>
    obtain ⟨rfl, k, hk, rfl, hall⟩ := hrel
    have HALL := Lib.hid hall
    clear hall
    by_cases hlt : k < s.size
    · have hnb := nb_at s k hlt
      have HNB := Lib.hid (show nb s k = (nums s).getD k 0 from rfl)
      generalize nb s k = c at *
      have go_on : isDC c = true → ∀ j, j < k + 1 → isDC ((nums s).getD j 0) = true := by
        intro hd j hj
        by_cases hjk : j < k
        · exact HALL.out j hjk
        · obtain rfl : j = k := by omega
          rw [← HNB.out]
          exact hd
      have stop : isDC c = false → (nums s).all isDC = false := fun hd => not_all (P := isDC) (by rw [hL.out]; exact hlt) (by rw [← HNB.out]; exact hd)
      have GO := Lib.hid go_on
      have ST := Lib.hid stop
      clear go_on stop
      by_cases c1 : c < 48
      · have d1 : decide ((c : Int) < 48) = true := by simp; omega
        have d3 : decide ((c : Int) < 65) = true := by simp; omega
        go_wp2
        (go_ret; exact ⟨by rw [ST.out (by simp [isD, isC, isDC]; omega)]; rfl, rfl⟩)
      · have d1 : decide ((c : Int) < 48) = false := by simp; omega
        by_cases c2 : 57 < c
        · have d2 : decide ((57 : Int) < c) = true := by simp; omega
          by_cases c3 : c < 65
          · have d3 : decide ((c : Int) < 65) = true := by simp; omega
            go_wp2
            (go_ret; exact ⟨by rw [ST.out (by simp [isD, isC, isDC]; omega)]; rfl, rfl⟩)
          · have d3 : decide ((c : Int) < 65) = false := by simp; omega
            by_cases c4 : 90 < c
            · have d4 : decide ((90 : Int) < c) = true := by simp; omega
              go_wp2
              (go_ret; exact ⟨by rw [ST.out (by simp [isD, isC, isDC]; omega)]; rfl, rfl⟩)
            · have d4 : decide ((90 : Int) < c) = false := by simp; omega
              go_wp2
              exact ⟨⟨trivial, k + 1, by omega, by go_num, GO.out (by simp [isD, isC, isDC]; omega)⟩, by simp [intOf]; omega⟩
        · have d2 : decide ((57 : Int) < c) = false := by simp; omega
          go_wp2
          exact ⟨⟨trivial, k + 1, by omega, by go_num, GO.out (by simp [isD, isC, isDC]; omega)⟩, by simp [intOf]; omega⟩
    · obtain rfl : k = s.size := by omega
      have hfin := Lib.hid (all_to (P := isDC) (bs := nums s) (fun j hj => HALL.out j (by rw [← hL.out]; exact hj)))
      go_wp2
      go_ret
      exact ⟨by rw [hfin.out]; rfl, rfl⟩

def letTo (bs : List Nat) : Nat → Nat
  | 0 => 0
  | k + 1 => (letTo bs k + (k + 1) % 26 * bs.getD k 0) % 26

theorem let_int (r k c : Nat) (hr : r < 26) (hc : c ≤ 255) : (wrap64 ((r : Int) + wrap64 (((k : Int) + 1) % 26 * (c : Int)))).tmod 26 = (((r + (k + 1) % 26 * c) % 26 : Nat) : Int) := by
  have hm : (k + 1) % 26 * c ≤ 25 * 255 := Nat.mul_le_mul (by omega) hc
  rw [show ((k : Int) + 1) % 26 * (c : Int) = (((k + 1) % 26 * c : Nat) : Int) by simp]
  generalize (k + 1) % 26 * c = M at *
  have e1 : wrap64 (M : Int) = M := by unfold wrap64; omega
  have e2 : wrap64 ((r : Int) + (M : Int)) = (r : Int) + (M : Int) := by unfold wrap64; omega
  rw [e1, e2, Int.tmod_eq_emod_of_nonneg (by omega)]
  omega

theorem let_int2 (r k c : Nat) (hr : r < 26) (hc : c ≤ 255) : (wrap64 ((r : Int) + wrap64 ((c : Int) * (((k : Int) + 1) % 26)))).tmod 26 = (((r + (k + 1) % 26 * c) % 26 : Nat) : Int) := by
  rw [Int.mul_comm]
  exact let_int r k c hr hc

theorem letTo_lt (bs : List Nat) (k : Nat) : letTo bs k < 26 := by
  cases k with
  | zero => simp [letTo]
  | succ k => exact Nat.mod_lt _ (by omega)

set_option maxRecDepth 100000 in
set_option maxHeartbeats 800000 in
theorem let_any (s : ByteArray) (w : World) (hs : s.size ≤ 100000) : Calls Tryd.prog 17 #[.string s] w fun e w' => e = .returned (.int .u8 (65 + letTo (nums s) s.size : Nat)) ∧ w = w' := by
  have hL := Lib.hid (nums_length s)
  go_enter Tryd.func17, Tryd.ntmps17
  go_wp2
  go_loopw [3, 7] (fun r i w' => w' = w ∧ ∃ k : Nat, k ≤ s.size ∧ i = .int .i64 k ∧ r = .int .i64 (letTo (nums s) k : Nat)) (fun _ i _ => s.size - (intOf i).toNat)
  case atStart => exact ⟨rfl, 0, by omega, rfl, rfl⟩
  case round =>
    obtain ⟨rfl, k, hk, rfl, rfl⟩ := hrel
    have hr := letTo_lt (nums s) k
    by_cases hlt : k < s.size
    · have hnb := nb_at s k hlt
      have hst : letTo (nums s) (k + 1) = (letTo (nums s) k + (k + 1) % 26 * nb s k) % 26 := rfl
      have HST := Lib.hid hst
      have hc := nb_lt s k
      clear hst
      generalize nb s k = c at *
      generalize letTo (nums s) k = r at *
      have hm := let_int r k c hr hc
      have hm2 := let_int2 r k c hr hc
      go_wp2
      exact ⟨⟨trivial, k + 1, by omega, by go_num, by rw [HST.out]; simp⟩, by simp [intOf]; omega⟩
    · obtain rfl : k = s.size := by omega
      go_wp2
      go_ret
      exact ⟨by first | rfl | simp, rfl⟩

set_option maxRecDepth 100000 in
set_option maxHeartbeats 800000 in
theorem reflet_any (s : ByteArray) (w : World) (hs : s.size ≤ 100000) : Calls Tryd.prog 18 #[.string s] w fun e w' => e = .returned (.int .u8 (65 + letTo (nums s) s.size : Nat)) ∧ w = w' := by
  have hL := Lib.hid (nums_length s)
  go_enter Tryd.func18, Tryd.ntmps18
  go_wp2
  go_loopw [3, 4] (fun r i w' => w' = w ∧ ∃ k : Nat, k ≤ s.size ∧ i = .int .i64 k ∧ r = .int .i64 (letTo (nums s) k : Nat)) (fun _ i _ => s.size - (intOf i).toNat)
  case atStart => exact ⟨rfl, 0, by omega, rfl, rfl⟩
  case round =>
    obtain ⟨rfl, k, hk, rfl, rfl⟩ := hrel
    have hr := letTo_lt (nums s) k
    by_cases hlt : k < s.size
    · have hnb := nb_at s k hlt
      have hst : letTo (nums s) (k + 1) = (letTo (nums s) k + (k + 1) % 26 * nb s k) % 26 := rfl
      have HST := Lib.hid hst
      have hc := nb_lt s k
      clear hst
      generalize nb s k = c at *
      generalize letTo (nums s) k = r at *
      have hm := let_int r k c hr hc
      have hm2 := let_int2 r k c hr hc
      go_wp2
      exact ⟨⟨trivial, k + 1, by omega, by go_num, by rw [HST.out]; simp⟩, by simp [intOf]; omega⟩
    · obtain rfl : k = s.size := by omega
      go_wp2
      go_ret
      exact ⟨by first | rfl | simp, rfl⟩


/-- What a digit adds at a place from the right. -/
def lu (d k : Nat) : Nat := if k % 2 = 1 then (if 9 < d * 2 then d * 2 - 9 else d * 2) else d

theorem lu_le {d : Nat} (k : Nat) (h : d ≤ 9) : lu d k ≤ 9 := by
  unfold lu
  split
  · split <;> omega
  · exact h

def luR (bs : List Nat) : Nat → Nat
  | 0 => 0
  | k + 1 => luR bs k + lu (bs.getD (bs.length - 1 - k) 0 - 48) k

def luTo (bs : List Nat) (k : Nat) : Nat := luR bs k % 10

def luhn (bs : List Nat) : Bool := decide (2 ≤ bs.length) && bs.all isD && decide (luTo bs bs.length = 0)

theorem luR_le {bs : List Nat} (h : bs.all isD = true) (k : Nat) (hk : k ≤ bs.length) : luR bs k ≤ 9 * k := by
  induction k with
  | zero => simp [luR]
  | succ k ih =>
    have h1 := ih (by omega)
    have h2 := all_at h (k := bs.length - 1 - k) (by omega)
    simp only [isD, decide_eq_true_eq] at h2
    have h3 := lu_le (d := bs.getD (bs.length - 1 - k) 0 - 48) k (by omega)
    simp only [luR]
    omega

theorem luhn_short {bs : List Nat} (h : bs.length < 2) : luhn bs = false := by
  unfold luhn
  rw [show decide (2 ≤ bs.length) = false by simp; omega]
  rfl

theorem luhn_bad {bs : List Nat} (h : bs.all isD = false) : luhn bs = false := by
  unfold luhn
  rw [h, Bool.and_false, Bool.false_and]

theorem luhn_val {bs : List Nat} (h2 : 2 ≤ bs.length) (h : bs.all isD = true) : luhn bs = decide (luTo bs bs.length = 0) := by
  unfold luhn
  rw [h, show decide (2 ≤ bs.length) = true by simp; omega]
  rfl

set_option maxRecDepth 100000 in
set_option maxHeartbeats 800000 in
theorem luhn_any (s : ByteArray) (w : World) (hs : s.size ≤ 100000) : Calls Tryd.prog 11 #[.string s] w fun e w' => e = .returned (.bool (luhn (nums s))) ∧ w = w' := by
  have hL := Lib.hid (nums_length s)
  by_cases h2 : s.size < 2
  · have hd : decide ((s.size : Int) < 2) = true := by simp; omega
    have hfin := Lib.hid (luhn_short (bs := nums s) (by rw [hL.out]; exact h2))
    go_enter Tryd.func11, Tryd.ntmps11
    go_wp2
    go_ret
    exact ⟨by rw [hfin.out]; rfl, rfl⟩
  · have hd : decide ((s.size : Int) < 2) = false := by simp; omega
    by_cases ha : (nums s).all isD = true
    · have HA := Lib.hid ha
      go_enter Tryd.func11, Tryd.ntmps11
      go_wp2_with (go_at_call 30; refine (every_d _ _ hs).mono ?_; rintro e w1 ⟨rfl, rfl⟩)
      clear ha
      go_loopw [3, 16] (fun r i w' => w' = w ∧ ∃ k : Nat, k ≤ s.size ∧ i = .int .i64 k ∧ r = .int .i64 (luTo (nums s) k : Nat)) (fun _ i _ => s.size - (intOf i).toNat)
      case atStart => exact ⟨rfl, 0, by omega, rfl, rfl⟩
      case round =>
        obtain ⟨rfl, k, hk, rfl, rfl⟩ := hrel
        by_cases hlt : k < s.size
        · obtain ⟨j, hj⟩ : ∃ j, s.size = k + 1 + j := ⟨s.size - k - 1, by omega⟩
          have hjl : j < s.size := by omega
          have hji : (s.size : Int) - 1 - (k : Int) = (j : Int) := by omega
          have hnb := nb_at s j hjl
          have hb := all_at HA.out (k := j) (by rw [hL.out]; exact hjl)
          rw [show (nums s).getD j 0 = nb s j from rfl] at hb
          simp only [isD, decide_eq_true_eq] at hb
          have hst : luR (nums s) (k + 1) = luR (nums s) k + lu (nb s j - 48) k := by
            show luR (nums s) k + lu ((nums s).getD ((nums s).length - 1 - k) 0 - 48) k = _
            rw [show (nums s).length - 1 - k = j by rw [hL.out]; omega]
            rfl
          have hle := luR_le HA.out k (by rw [hL.out]; exact hk)
          have hmod : luTo (nums s) k = luR (nums s) k % 10 := rfl
          have hmod2 : luTo (nums s) (k + 1) = luR (nums s) (k + 1) % 10 := rfl
          have HST := Lib.hid hst
          have HM := Lib.hid hmod
          have HM2 := Lib.hid hmod2
          have HJ := Lib.hid hj
          clear hst hmod hmod2 hj
          generalize nb s j = c at *
          generalize luR (nums s) k = r at *
          generalize luTo (nums s) k = q at *
          have hq := HM.out
          by_cases hpar : k % 2 = 1
          · have hpi : (k : Int) % 2 = 1 := by omega
            by_cases hbig : 9 < (c - 48) * 2
            · have hv : lu (c - 48) k = (c - 48) * 2 - 9 := by unfold lu; rw [if_pos hpar, if_pos hbig]
              have HV := Lib.hid hv
              clear hv
              have hdb : decide ((9 : Int) < ((c : Int) - 48) * 2) = true := by simp; omega
              go_wp2
              exact ⟨⟨trivial, k + 1, by omega, by go_num, by rw [HM2.out, HST.out, HV.out]; go_num⟩, by simp [intOf]; omega⟩
            · have hv : lu (c - 48) k = (c - 48) * 2 := by unfold lu; rw [if_pos hpar, if_neg hbig]
              have HV := Lib.hid hv
              clear hv
              have hdb : decide ((9 : Int) < ((c : Int) - 48) * 2) = false := by simp; omega
              go_wp2
              exact ⟨⟨trivial, k + 1, by omega, by go_num, by rw [HM2.out, HST.out, HV.out]; go_num⟩, by simp [intOf]; omega⟩
          · have hpi : (k : Int) % 2 = 0 := by omega
            have hv : lu (c - 48) k = c - 48 := by unfold lu; rw [if_neg hpar]
            have HV := Lib.hid hv
            clear hv
            have hdb : decide ((9 : Int) < ((c : Int) - 48)) = false := by simp; omega
            go_wp2
            exact ⟨⟨trivial, k + 1, by omega, by go_num, by rw [HM2.out, HST.out, HV.out]; go_num⟩, by simp [intOf]; omega⟩
        · obtain rfl : k = s.size := by omega
          have hfin := Lib.hid (luhn_val (bs := nums s) (by rw [hL.out]; omega) HA.out)
          have hY : (((luTo (nums s) s.size : Nat) : Int) == 0) = decide (luTo (nums s) s.size = 0) := by rw [Bool.eq_iff_iff]; simp
          have HY := Lib.hid hY
          clear hY
          go_wp2
          go_ret
          exact ⟨by rw [hfin.out, hL.out, ← HY.out]; rfl, rfl⟩
    · rw [Bool.not_eq_true] at ha
      have hfin := Lib.hid (luhn_bad (bs := nums s) ha)
      go_enter Tryd.func11, Tryd.ntmps11
      go_wp2_with (go_at_call 30; refine (every_d _ _ hs).mono ?_; rintro e w1 ⟨rfl, rfl⟩)
      go_ret
      exact ⟨by rw [hfin.out]; rfl, rfl⟩

set_option maxRecDepth 100000 in
set_option maxHeartbeats 800000 in
theorem refluhn_any (s : ByteArray) (w : World) (hs : s.size ≤ 100000) : Calls Tryd.prog 12 #[.string s] w fun e w' => e = .returned (.bool (luhn (nums s))) ∧ w = w' := by
  have hL := Lib.hid (nums_length s)
  by_cases h2 : s.size < 2
  · have hd : decide ((s.size : Int) < 2) = true := by simp; omega
    have hfin := Lib.hid (luhn_short (bs := nums s) (by rw [hL.out]; exact h2))
    go_enter Tryd.func12, Tryd.ntmps12
    go_wp2
    go_ret
    exact ⟨by rw [hfin.out]; rfl, rfl⟩
  · have hd : decide ((s.size : Int) < 2) = false := by simp; omega
    by_cases ha : (nums s).all isD = true
    · have HA := Lib.hid ha
      go_enter Tryd.func12, Tryd.ntmps12
      go_wp2_with (go_at_call 26; refine (digits_any _ _ hs).mono ?_; rintro e w1 ⟨rfl, rfl⟩)
      clear ha
      go_loopw [3, 4] (fun r i w' => w' = w ∧ ∃ k : Nat, k ≤ s.size ∧ i = .int .i64 k ∧ r = .int .i64 (luR (nums s) k : Nat)) (fun _ i _ => s.size - (intOf i).toNat)
      case atStart => exact ⟨rfl, 0, by omega, rfl, rfl⟩
      case round =>
        obtain ⟨rfl, k, hk, rfl, rfl⟩ := hrel
        by_cases hlt : k < s.size
        · obtain ⟨j, hj⟩ : ∃ j, s.size = k + 1 + j := ⟨s.size - k - 1, by omega⟩
          have hjl : j < s.size := by omega
          have hji : (s.size : Int) - 1 - (k : Int) = (j : Int) := by omega
          have hnb := nb_at s j hjl
          have hb := all_at HA.out (k := j) (by rw [hL.out]; exact hjl)
          rw [show (nums s).getD j 0 = nb s j from rfl] at hb
          simp only [isD, decide_eq_true_eq] at hb
          have hst : luR (nums s) (k + 1) = luR (nums s) k + lu (nb s j - 48) k := by
            show luR (nums s) k + lu ((nums s).getD ((nums s).length - 1 - k) 0 - 48) k = _
            rw [show (nums s).length - 1 - k = j by rw [hL.out]; omega]
            rfl
          have hle := luR_le HA.out k (by rw [hL.out]; exact hk)
          have hmod : luTo (nums s) k = luR (nums s) k % 10 := rfl
          have hmod2 : luTo (nums s) (k + 1) = luR (nums s) (k + 1) % 10 := rfl
          have HST := Lib.hid hst
          have HM := Lib.hid hmod
          have HM2 := Lib.hid hmod2
          have HJ := Lib.hid hj
          clear hst hmod hmod2 hj
          generalize nb s j = c at *
          generalize luR (nums s) k = r at *
          generalize luTo (nums s) k = q at *
          have hq := HM.out
          by_cases hpar : k % 2 = 1
          · have hpi : (k : Int) % 2 = 1 := by omega
            by_cases hbig : 9 < (c - 48) * 2
            · have hv : lu (c - 48) k = (c - 48) * 2 - 9 := by unfold lu; rw [if_pos hpar, if_pos hbig]
              have HV := Lib.hid hv
              clear hv
              have hdb : decide ((9 : Int) < ((c : Int) - 48) * 2) = true := by simp; omega
              go_wp2
              exact ⟨⟨trivial, k + 1, by omega, by go_num, by rw [HST.out, HV.out]; go_num⟩, by simp [intOf]; omega⟩
            · have hv : lu (c - 48) k = (c - 48) * 2 := by unfold lu; rw [if_pos hpar, if_neg hbig]
              have HV := Lib.hid hv
              clear hv
              have hdb : decide ((9 : Int) < ((c : Int) - 48) * 2) = false := by simp; omega
              go_wp2
              exact ⟨⟨trivial, k + 1, by omega, by go_num, by rw [HST.out, HV.out]; go_num⟩, by simp [intOf]; omega⟩
          · have hpi : (k : Int) % 2 = 0 := by omega
            have hv : lu (c - 48) k = c - 48 := by unfold lu; rw [if_neg hpar]
            have HV := Lib.hid hv
            clear hv
            have hdb : decide ((9 : Int) < ((c : Int) - 48)) = false := by simp; omega
            go_wp2
            exact ⟨⟨trivial, k + 1, by omega, by go_num, by rw [HST.out, HV.out]; go_num⟩, by simp [intOf]; omega⟩
        · obtain rfl : k = s.size := by omega
          have hfin := Lib.hid (luhn_val (bs := nums s) (by rw [hL.out]; omega) HA.out)
          have hle := luR_le HA.out s.size (by rw [hL.out]; exact Nat.le_refl _)
          have HT := Lib.hid (show luTo (nums s) s.size = luR (nums s) s.size % 10 from rfl)
          generalize luR (nums s) s.size = r at *
          go_wp2
          go_ret
          refine ⟨?_, rfl⟩
          rw [hfin.out, hL.out, HT.out]
          rw [show decide (r % 10 = 0) = ((r : Int) % 10 == 0) by rw [Bool.eq_iff_iff]; simp; omega]
          rfl
    · rw [Bool.not_eq_true] at ha
      have hfin := Lib.hid (luhn_bad (bs := nums s) ha)
      go_enter Tryd.func12, Tryd.ntmps12
      go_wp2_with (go_at_call 26; refine (digits_any _ _ hs).mono ?_; rintro e w1 ⟨rfl, rfl⟩)
      go_ret
      exact ⟨by rw [hfin.out]; rfl, rfl⟩


end Go.Proofs.YthofhljbipkiaaaDoor.Ck
