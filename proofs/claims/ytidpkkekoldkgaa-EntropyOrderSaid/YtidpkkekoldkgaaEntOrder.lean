/- The order of bytes means nothing; one byte alone has no entropy; the mean is bounded by the number of different bytes: in numbers. -/
import Derived.Test.YtidpkkekoldkgaaEntEq
import Derived.Test.YtidpkkekoldkgaaEntGrows
namespace Go.Proofs.Ytidpkkekoldkgaa.Ent
open Go.RowKit
open Go.Proofs.Ytidpkkekoldkgaa.entropyGrows (lgI_mono)
set_option linter.unusedVariables false

/-- The logarithms of 1 to 64. -/
def tbl : List (Nat × Nat) := [(1, 0), (2, 65536), (3, 103872), (4, 131072), (5, 152169), (6, 169408), (7, 183982), (8, 196608), (9, 207744), (10, 217705), (11, 226717), (12, 234944), (13, 242512), (14, 249518), (15, 256041), (16, 262144), (17, 267875), (18, 273280), (19, 278392), (20, 283241), (21, 287854), (22, 292253), (23, 296456), (24, 300480), (25, 304339), (26, 308048), (27, 311616), (28, 315054), (29, 318372), (30, 321577), (31, 324678), (32, 327680), (33, 330589), (34, 333411), (35, 336152), (36, 338816), (37, 341406), (38, 343928), (39, 346384), (40, 348777), (41, 351112), (42, 353390), (43, 355615), (44, 357789), (45, 359914), (46, 361992), (47, 364025), (48, 366016), (49, 367965), (50, 369875), (51, 371748), (52, 373584), (53, 375384), (54, 377152), (55, 378887), (56, 380590), (57, 382264), (58, 383908), (59, 385524), (60, 387113), (61, 388676), (62, 390214), (63, 391727), (64, 393216)]

theorem tbl_eq : tbl = (List.range 64).map fun i => (i + 1, lg (i + 1)) := by decide +kernel

theorem tbl_mem {n : Nat} (h1 : 1 ≤ n) (h : n ≤ 64) : (n, lg n) ∈ tbl := by
  rw [tbl_eq]
  refine List.mem_map.2 ⟨n - 1, by simp; omega, ?_⟩
  have : n - 1 + 1 = n := by omega
  rw [this]

/-- The line that touches: c logarithms of N through c lie under it. -/
def under : Bool := tbl.all fun p => tbl.all fun q => tbl.all fun r => Nat.blt p.1 q.1 || (Nat.blt p.1 r.1 || Nat.ble (r.1 * p.2 + 94548 * r.1) ((q.2 + 8) * r.1 + r.1 * r.2 + p.1 * 94548 / q.1))

set_option maxRecDepth 100000 in
theorem under_all : under = true := by decide +kernel

theorem under_at {N D c : Nat} (hN : N ≤ 64) (hD1 : 1 ≤ D) (hD : D ≤ N) (hc1 : 1 ≤ c) (hc : c ≤ N) : c * lg N + 94548 * c ≤ (lg D + 8) * c + c * lg c + N * 94548 / D := by
  have h := under_all
  unfold under at h
  have h1 := List.all_eq_true.1 (List.all_eq_true.1 (List.all_eq_true.1 h _ (tbl_mem (n := N) (by omega) hN)) _ (tbl_mem (n := D) hD1 (by omega))) _ (tbl_mem (n := c) hc1 (by omega))
  simp only [Bool.or_eq_true] at h1
  rcases h1 with h1 | h1 | h1
  · have : N + 1 ≤ D := by simpa [Nat.blt] using h1
    omega
  · have : N + 1 ≤ c := by simpa [Nat.blt] using h1
    omega
  · exact Nat.le_of_ble_eq_true h1

theorem lgI_lg {n : Nat} (h1 : 1 ≤ n) (h : n ≤ 65536) : lgI n = (lg n : Int) := by
  unfold lgI
  rw [if_pos (by omega)]
  simp

/-- The sum of the first k counts. -/
def sumC (bs : List Nat) : Nat → Nat
  | 0 => 0
  | k + 1 => sumC bs k + cnt bs k

theorem sumC_cons (b : Nat) (bs : List Nat) : ∀ k, sumC (b :: bs) k = sumC bs k + if b < k then 1 else 0
  | 0 => by simp [sumC]
  | k + 1 => by
    have ih := sumC_cons b bs k
    have e : cnt (b :: bs) k = cnt bs k + if b = k then 1 else 0 := by
      unfold cnt
      rw [List.count_cons]
      by_cases h : b = k <;> simp [h]
    simp only [sumC]
    rw [ih, e]
    by_cases h : b = k
    · subst h
      simp
      omega
    · have : (b < k + 1) ↔ (b < k) := by omega
      simp only [this, if_neg h]
      omega

theorem sumC_all (bs : List Nat) (h : ∀ b ∈ bs, b ≤ 255) : sumC bs 256 = bs.length := by
  induction bs with
  | nil =>
    have e : ∀ k, sumC [] k = 0 := by
      intro k
      induction k with
      | zero => rfl
      | succ k ih => simp [sumC, ih, cnt]
    rw [e]
    rfl
  | cons b bs ih =>
    have h1 := h b (by simp)
    rw [sumC_cons, ih (fun x hx => h x (by simp [hx])), if_pos (by omega)]
    simp

theorem ds_le_sum (bs : List Nat) : ∀ k, ds bs k ≤ sumC bs k
  | 0 => by simp [ds, sumC]
  | k + 1 => by
    have ih := ds_le_sum bs k
    simp only [ds, sumC]
    split <;> omega

theorem sum_le_ds (bs : List Nat) : ∀ k, sumC bs k ≤ bs.length * ds bs k
  | 0 => by simp [ds, sumC]
  | k + 1 => by
    have ih := sum_le_ds bs k
    have hc := cnt_le bs k
    simp only [ds, sumC]
    rw [Nat.mul_add]
    split
    · rw [Nat.mul_one]; omega
    · rw [Nat.mul_zero]; omega

/-- The bound of a sum of entropies, by a line. -/
theorem ms_line (bs : List Nat) (W a b : Int) (h : ∀ c : Nat, 1 ≤ c → c ≤ bs.length → (c : Int) * (W - lgI c) ≤ a * c + b) : ∀ k, ms bs W k ≤ a * (sumC bs k : Int) + b * (ds bs k : Int)
  | 0 => by simp [ms, sumC, ds]
  | k + 1 => by
    have ih := ms_line bs W a b h k
    have hc := cnt_le bs k
    simp only [ms, sumC, ds, term]
    by_cases h0 : 0 < cnt bs k
    · rw [if_pos h0, if_pos h0]
      have h1 := h (cnt bs k) h0 hc
      rw [Int.natCast_add, Int.natCast_add, Int.mul_add, Int.mul_add]
      simp only [Int.natCast_one, Int.mul_one]
      omega
    · rw [if_neg h0, if_neg h0]
      have hz : cnt bs k = 0 := by omega
      rw [hz]
      simpa using ih

/-- The mean is bounded by the number of different bytes. -/
theorem ms_bound (bs : List Nat) (hb : ∀ b ∈ bs, b ≤ 255) (h1 : 1 ≤ bs.length) (h64 : bs.length ≤ 64) :
    1 ≤ ds bs 256 ∧ ds bs 256 ≤ bs.length ∧ ms bs (lgI bs.length) 256 ≤ (bs.length : Int) * (lgI (ds bs 256 : Nat) + 8) := by
  have hs := sumC_all bs hb
  have d1 := ds_le_sum bs 256
  have d2 := sum_le_ds bs 256
  rw [hs] at d1 d2
  have hD1 : 1 ≤ ds bs 256 := by
    rcases Nat.eq_zero_or_pos (ds bs 256) with h | h
    · rw [h, Nat.mul_zero] at d2
      omega
    · exact h
  refine ⟨hD1, d1, ?_⟩
  generalize hD : ds bs 256 = D at *
  generalize hN : bs.length = N at *
  have hl := ms_line bs (lgI N) ((lg D : Int) + 8 - 94548) ((N * 94548 / D : Nat) : Int) (fun c hc1 hcN => by
    rw [hN] at hcN
    have hu := under_at h64 hD1 d1 hc1 hcN
    rw [lgI_lg h1 (by omega), lgI_lg hc1 (by omega), Int.mul_sub, Int.sub_mul, Int.add_mul]
    have e1 : ((c * lg N + 94548 * c : Nat) : Int) ≤ ((lg D + 8) * c + c * lg c + N * 94548 / D : Nat) := Int.ofNat_le.2 hu
    rw [Nat.add_mul] at e1
    simp only [Int.natCast_add, Int.natCast_mul] at e1 ⊢
    have e3 : ((94548 : Nat) : Int) = 94548 := rfl
    have e4 : ((8 : Nat) : Int) = 8 := rfl
    rw [e3, e4] at e1
    generalize (c : Int) * (lg N : Int) = X1 at *
    generalize (c : Int) * (lg c : Int) = X2 at *
    generalize (lg D : Int) * (c : Int) = X3 at *
    generalize ((N * 94548 / D : Nat) : Int) = X4 at *
    omega) 256
  rw [hs, hD] at hl
  have hdiv : (N * 94548 / D) * D ≤ N * 94548 := Nat.div_mul_le_self _ _
  have hdivI : (((N * 94548 / D) * D : Nat) : Int) ≤ ((N * 94548 : Nat) : Int) := Int.ofNat_le.2 hdiv
  rw [Int.natCast_mul, Int.natCast_mul] at hdivI
  rw [lgI_lg hD1 (by omega)]
  rw [Int.sub_mul, Int.add_mul] at hl
  rw [Int.mul_add, Int.mul_comm (N : Int) (lg D : Int)]
  have e3 : ((94548 : Nat) : Int) = 94548 := rfl
  rw [e3] at hdivI
  generalize (lg D : Int) * (N : Int) = X1 at *
  generalize ((N * 94548 / D : Nat) : Int) * (D : Int) = X2 at *
  omega

/-- Bytes whose counts are the same have one entropy. -/
theorem ms_congr {a b : List Nat} (h : ∀ i, cnt a i = cnt b i) (W : Int) : ∀ k, ms a W k = ms b W k
  | 0 => rfl
  | k + 1 => by simp only [ms, term, ms_congr h W k, h k]

theorem ms_reverse (bs : List Nat) (W : Int) (k : Nat) : ms bs.reverse W k = ms bs W k := ms_congr (fun i => by unfold cnt; simp) W k

theorem ms_same (n b : Nat) : ∀ k, ms (List.replicate n b) (lgI n) k = 0
  | 0 => rfl
  | k + 1 => by
    have ih := ms_same n b k
    simp only [ms, term]
    rw [ih]
    have e : cnt (List.replicate n b) k = if b = k then n else 0 := by
      unfold cnt
      rw [List.count_replicate]
      by_cases h : b = k <;> simp [h]
    rw [e]
    by_cases h : b = k
    · rw [if_pos h]
      split <;> simp
    · rw [if_neg h]
      simp

theorem ms_pos (bs : List Nat) (hl : bs.length ≤ 65536) : ∀ k, 0 ≤ ms bs (lgI bs.length) k
  | 0 => by simp [ms]
  | k + 1 => by
    have ih := ms_pos bs hl k
    have hc := cnt_le bs k
    simp only [ms, term]
    by_cases h0 : 0 < cnt bs k
    · rw [if_pos h0]
      have hm := lgI_mono (cnt bs k) bs.length (by omega) (by omega) (by omega)
      have := Int.mul_nonneg (a := (cnt bs k : Int)) (b := lgI bs.length - lgI (cnt bs k)) (by omega) (by omega)
      omega
    · rw [if_neg h0]
      omega
end Go.Proofs.Ytidpkkekoldkgaa.Ent
