import Derived.Test.YthofhljbipkiaaaDoorCkM
import Derived.Lib.ConvBytes
namespace Go.Proofs.YthofhljbipkiaaaDoor.Ck
open Go.RowKit
open Go.Proofs.YthofhljbipkiaaaDoor.Tp
set_option linter.unusedVariables false

/-! ### A byte is set -/

theorem getD_set_ne {ys : List Nat} {p b j : Nat} (h : j ≠ p) : (ys.set p b).getD j 0 = ys.getD j 0 := by
  rw [List.getD_eq_getElem?_getD, List.getD_eq_getElem?_getD, List.getElem?_set, if_neg (fun e => h e.symm)]

theorem getD_set_eq {ys : List Nat} {p b : Nat} (h : p < ys.length) : (ys.set p b).getD p 0 = b := by
  rw [List.getD_eq_getElem?_getD, List.getElem?_set, if_pos rfl, if_pos h]
  rfl

theorem all_set {ys : List Nat} {p b : Nat} {P : Nat → Bool} (h : ys.all P = true) (hb : P b = true) : (ys.set p b).all P = true := by
  rw [List.all_eq_true] at h ⊢
  intro x hx
  rcases List.mem_or_eq_of_mem_set hx with hx | rfl
  · exact h x hx
  · exact hb

theorem getD_le {ys : List Nat} (h : ∀ b ∈ ys, b ≤ 255) (j : Nat) : ys.getD j 0 ≤ 255 := by
  rw [List.getD_eq_getElem?_getD]
  cases e : ys[j]? with
  | none => simp
  | some x => simpa using h x (List.mem_of_getElem? e)

/-- A string's bytes laid in a row of their own, one set, and the string of them. -/
theorem odd_bytes (X : ByteArray) (w : World) (k b : Nat) (hk : k < X.size) (hb : b ≤ 255) :
    ∃ W c, (convert 9 32 (.string X)).run Tryd.prog w = .ok (.slice (some ⟨w.heap.size, 0, none⟩) X.size c) W ∧
      W.frozen? ⟨w.heap.size, k, none⟩ = false ∧ W.cell? ⟨w.heap.size, k, none⟩ = some (.int .u8 (nb X k : Nat)) ∧
      (convert 32 9 (.slice (some ⟨w.heap.size, 0, none⟩) X.size c)).run Tryd.prog (W.setCell ⟨w.heap.size, k, none⟩ (.int .u8 (b : Int))) =
        .ok (.string (strB ((nums X).set k b))) (W.setCell ⟨w.heap.size, k, none⟩ (.int .u8 (b : Int))) ∧
      Below w.heap.size w W ∧ Below w.heap.size w (W.setCell ⟨w.heap.size, k, none⟩ (.int .u8 (b : Int))) := by
  have hn := Lib.bytesWorld_at_new w 5 X
  have hsz : X.size ≤ (Lib.bytesCells w 5 X).size := by
    simp [Lib.bytesCells]
  have hcell : ∀ j, j < X.size → (Lib.bytesWorld w 5 X).cell? ⟨w.heap.size, j, none⟩ = some (.int .u8 (nb X j : Nat)) := fun j hj => by
    rw [Lib.bytesWorld_cell w 5 X j hj]
    have : (X.data.toList.getD j 0).toNat = nb X j := by
      unfold nb nums
      rw [List.getD_eq_getElem?_getD, List.getD_eq_getElem?_getD, List.getElem?_map]
      cases X.data.toList[j]? <;> rfl
    rw [this]
  have hbel : Below w.heap.size w (Lib.bytesWorld w 5 X) := by
    refine ⟨rfl, rfl, rfl, by rw [Lib.bytesWorld_size]; omega, fun j hj => Lib.bytesWorld_at_old w 5 X j hj⟩
  refine ⟨Lib.bytesWorld w 5 X, grownCap w X.size 0 5, Lib.run_convert_string_bytes w 9 32 5 X Tryd.underlying9 Tryd.underlying32 Tryd.underlying5, ?_, hcell k hk, ?_, hbel, hbel.setCell (Nat.le_refl _) _⟩
  · simp only [World.frozen?, hn]
    simp
    omega
  · refine run_convert_bytes_arg _ 32 5 Tryd.underlying32 Tryd.underlying5 w.heap.size 0 X.size _ _ (by simp [nums_length]) (fun i hi => ?_) 9 Tryd.underlying9
    rw [Nat.zero_add]
    by_cases e : i = k
    · subst e
      rw [World.cell?_setCell_same _ _ _ (hcell i hk)]
      simp [show i < (nums X).length by rw [nums_length]; exact hk]
    · rw [World.cell?_setCell_other (h := show (⟨w.heap.size, k, none⟩ : Addr) ≠ ⟨w.heap.size, i, none⟩ from fun h => e (by cases h; rfl)), hcell i hi]
      have hl : i < (nums X).length := by rw [nums_length]; exact hi
      unfold nb
      have hki : ¬ k = i := fun h => e h.symm
      rw [List.getD_eq_getElem?_getD, List.getD_eq_getElem?_getD, List.getElem?_map, List.getElem?_set, if_neg hki]
      cases (nums X)[i]? <;> rfl

/-! ### The remainder -/

theorem remS_inj {c r t : Nat} (hc : isDC c = true) (hr : r < 97) (ht : t < 97) (h : remS c r = remS c t) : r = t := by
  unfold remS at h
  split at h <;> omega

theorem remTo_congr {xs ys : List Nat} (k : Nat) (h : ∀ j, j < k → xs.getD j 0 = ys.getD j 0) : remTo xs k = remTo ys k := by
  induction k with
  | zero => rfl
  | succ k ih =>
    show remS _ _ = remS _ _
    rw [ih (fun j hj => h j (by omega)), h k (by omega)]

theorem remTo_apart {xs ys : List Nat} {p n : Nat} (h1 : remTo xs (p + 1) ≠ remTo ys (p + 1)) (heq : ∀ j, p < j → xs.getD j 0 = ys.getD j 0) (hdc : ∀ j, j < n → isDC (ys.getD j 0) = true) (d : Nat) (hd : p + 1 + d ≤ n) : remTo xs (p + 1 + d) ≠ remTo ys (p + 1 + d) := by
  induction d with
  | zero => exact h1
  | succ d ih =>
    intro e
    have e' : remS (xs.getD (p + 1 + d) 0) (remTo xs (p + 1 + d)) = remS (ys.getD (p + 1 + d) 0) (remTo ys (p + 1 + d)) := e
    rw [heq _ (by omega)] at e'
    exact ih (by omega) (remS_inj (hdc _ (by omega)) (remTo_lt _ _) (remTo_lt _ _) e')

theorem mod97_parts {ys : List Nat} (h : mod97 ys = true) : ys.all isDC = true ∧ remTo ys ys.length = 1 := by
  unfold mod97 at h
  simp only [Bool.and_eq_true, decide_eq_true_eq] at h
  exact ⟨h.2.1, h.2.2.2⟩

theorem mod97_off {ys : List Nat} (h : remTo ys ys.length ≠ 1) : mod97 ys = false := by
  unfold mod97
  rw [show decide (remTo ys ys.length = 1) = false by simpa using h]
  simp

theorem mod97_set {ys : List Nat} {p b : Nat} (h : mod97 ys = true) (hp : p < ys.length) (hne : remS b (remTo ys p) ≠ remS (ys.getD p 0) (remTo ys p)) : mod97 (ys.set p b) = false := by
  obtain ⟨ha, hr⟩ := mod97_parts h
  apply mod97_off
  have h1 : remTo (ys.set p b) (p + 1) ≠ remTo ys (p + 1) := by
    show remS _ _ ≠ remS _ _
    rw [getD_set_eq hp, remTo_congr (xs := ys.set p b) (ys := ys) p (fun j hj => getD_set_ne (by omega))]
    exact hne
  have h2 := remTo_apart (n := ys.length) h1 (fun j hj => getD_set_ne (by omega)) (fun j hj => all_at ha hj) (ys.length - (p + 1)) (by omega)
  rw [show p + 1 + (ys.length - (p + 1)) = ys.length by omega, hr] at h2
  rw [List.length_set]
  exact h2

/-! ### Luhn -/

theorem lu_inj {a b k : Nat} (ha : a ≤ 9) (hb : b ≤ 9) (h : lu a k = lu b k) : a = b := by
  unfold lu at h
  split at h
  · split at h <;> split at h <;> omega
  · exact h

theorem luR_set {ys : List Nat} {p b : Nat} (hp : p < ys.length) (k : Nat) (hk : k ≤ ys.length) :
    luR (ys.set p b) k + (if ys.length - 1 - p < k then lu (ys.getD p 0 - 48) (ys.length - 1 - p) else 0) = luR ys k + (if ys.length - 1 - p < k then lu (b - 48) (ys.length - 1 - p) else 0) := by
  induction k with
  | zero => simp [luR]
  | succ k ih =>
    have ih := ih (by omega)
    rw [luR_succ, luR_succ, List.length_set]
    by_cases e : ys.length - 1 - k = p
    · have e2 : ys.length - 1 - p = k := by omega
      rw [e, getD_set_eq hp, e2, if_pos (by omega), if_pos (by omega)]
      rw [e2, if_neg (by omega), if_neg (by omega)] at ih
      omega
    · rw [getD_set_ne e]
      by_cases h1 : ys.length - 1 - p < k
      · rw [if_pos h1, if_pos h1] at ih
        rw [if_pos (by omega), if_pos (by omega)]
        omega
      · rw [if_neg h1, if_neg h1] at ih
        rw [if_neg (by omega), if_neg (by omega)]
        omega

theorem luhn_parts {ys : List Nat} (h : luhn ys = true) : ys.all isD = true ∧ luR ys ys.length % 10 = 0 := by
  unfold luhn luTo at h
  simp only [Bool.and_eq_true, decide_eq_true_eq] at h
  exact ⟨h.1.2, h.2⟩

theorem luhn_set {ys : List Nat} {p b : Nat} (h : luhn ys = true) (hp : p < ys.length) (hb : isD b = true) (hne : b ≠ ys.getD p 0) : luhn (ys.set p b) = false := by
  obtain ⟨ha, hr⟩ := luhn_parts h
  have hl := luR_set (b := b) hp ys.length (Nat.le_refl _)
  rw [if_pos (by omega), if_pos (by omega)] at hl
  have hy := all_at ha hp
  simp only [isD, decide_eq_true_eq] at hy hb
  have l1 := lu_le (d := ys.getD p 0 - 48) (ys.length - 1 - p) (by omega)
  have l2 := lu_le (d := b - 48) (ys.length - 1 - p) (by omega)
  unfold luhn luTo
  rw [List.length_set]
  have : luR (ys.set p b) ys.length % 10 ≠ 0 := by
    intro e
    have e2 : lu (ys.getD p 0 - 48) (ys.length - 1 - p) = lu (b - 48) (ys.length - 1 - p) := by omega
    have := lu_inj (by omega) (by omega) e2
    omega
  rw [show decide (luR (ys.set p b) ys.length % 10 = 0) = false by simpa using this]
  simp

/-! ### CRC -/

theorem xor_cancel {a b c : Nat} (h : a ^^^ c = b ^^^ c) : a = b := by
  have := congrArg (· ^^^ c) h
  simpa [Nat.xor_assoc] using this

theorem top_off {a b : Nat} (ha : a < 2 ^ 31) (hb : b < 2 ^ 31) : a ^^^ 3988292384 ≠ b := by
  intro h
  have h1 := congrArg (fun n => n.testBit 31) h
  simp only [Nat.testBit_xor] at h1
  rw [Nat.testBit_lt_two_pow ha, Nat.testBit_lt_two_pow hb] at h1
  exact absurd h1 (by decide)

theorem crcS_inj {x y : Nat} (hx : x < 2 ^ 32) (hy : y < 2 ^ 32) (h : crcS x = crcS y) : x = y := by
  unfold crcS at h
  split at h <;> split at h
  · have := xor_cancel h
    omega
  · exact absurd h (top_off (by omega) (by omega))
  · exact absurd h.symm (top_off (by omega) (by omega))
  · omega

theorem crcB_inj {x y : Nat} (hx : x < 2 ^ 32) (hy : y < 2 ^ 32) (k : Nat) (h : crcB x k = crcB y k) : x = y := by
  induction k with
  | zero => exact h
  | succ k ih => exact ih (crcS_inj (crcB_lt hx k) (crcB_lt hy k) h)

theorem crcTo_congr {xs ys : List Nat} (k : Nat) (h : ∀ j, j < k → xs.getD j 0 = ys.getD j 0) : crcTo xs k = crcTo ys k := by
  induction k with
  | zero => rfl
  | succ k ih =>
    show crcB (_ ^^^ _) 8 = crcB (_ ^^^ _) 8
    rw [ih (fun j hj => h j (by omega)), h k (by omega)]

theorem crcTo_apart {xs ys : List Nat} {p : Nat} (hx : ∀ j, xs.getD j 0 ≤ 255) (hy : ∀ j, ys.getD j 0 ≤ 255) (h1 : crcTo xs (p + 1) ≠ crcTo ys (p + 1)) (heq : ∀ j, p < j → xs.getD j 0 = ys.getD j 0) (d : Nat) : crcTo xs (p + 1 + d) ≠ crcTo ys (p + 1 + d) := by
  induction d with
  | zero => exact h1
  | succ d ih =>
    intro e
    have e' : crcB (crcTo xs (p + 1 + d) ^^^ xs.getD (p + 1 + d) 0) 8 = crcB (crcTo ys (p + 1 + d) ^^^ ys.getD (p + 1 + d) 0) 8 := e
    have l1 := Nat.xor_lt_two_pow (crcTo_lt xs hx (p + 1 + d)) (Nat.lt_of_le_of_lt (hx (p + 1 + d)) (show 255 < 2 ^ 32 by decide))
    have l2 := Nat.xor_lt_two_pow (crcTo_lt ys hy (p + 1 + d)) (Nat.lt_of_le_of_lt (hy (p + 1 + d)) (show 255 < 2 ^ 32 by decide))
    have e3 := crcB_inj l1 l2 8 e'
    rw [heq _ (by omega)] at e3
    exact ih (xor_cancel e3)

theorem crc_set {ys : List Nat} {p b : Nat} (hy : ∀ x ∈ ys, x ≤ 255) (hb : b ≤ 255) (hp : p < ys.length) (hne : b ≠ ys.getD p 0) : crc (ys.set p b) ≠ crc ys := by
  have gx : ∀ j, (ys.set p b).getD j 0 ≤ 255 := getD_le (fun x hx => by
    rcases List.mem_or_eq_of_mem_set hx with hx | rfl
    · exact hy x hx
    · exact hb)
  have gy : ∀ j, ys.getD j 0 ≤ 255 := getD_le hy
  have h1 : crcTo (ys.set p b) (p + 1) ≠ crcTo ys (p + 1) := by
    show crcB (_ ^^^ _) 8 ≠ crcB (_ ^^^ _) 8
    rw [getD_set_eq hp, crcTo_congr (xs := ys.set p b) (ys := ys) p (fun j hj => getD_set_ne (by omega))]
    intro e
    have l0 := crcTo_lt ys gy p
    have e3 := crcB_inj (Nat.xor_lt_two_pow l0 (Nat.lt_of_le_of_lt hb (show 255 < 2 ^ 32 by decide))) (Nat.xor_lt_two_pow l0 (Nat.lt_of_le_of_lt (gy p) (show 255 < 2 ^ 32 by decide))) 8 e
    rw [Nat.xor_comm, Nat.xor_comm (crcTo ys p)] at e3
    exact hne (xor_cancel e3)
  have h2 := crcTo_apart gx gy h1 (fun j hj => getD_set_ne (by omega)) (ys.length - (p + 1))
  rw [show p + 1 + (ys.length - (p + 1)) = ys.length by omega] at h2
  unfold crc
  rw [List.length_set]
  intro e
  exact h2 (xor_cancel e)

theorem crc_lt2 {ys : List Nat} (h : ∀ x ∈ ys, x ≤ 255) : crc ys < 2 ^ 32 := Nat.xor_lt_two_pow (crcTo_lt _ (getD_le h) _) (by decide)

theorem hexC_inj {a b : Nat} (ha : a < 16) (hb : b < 16) (h : hexC a = hexC b) : a = b := by
  unfold hexC at h
  split at h <;> split at h <;> omega

theorem hexL_inj {x y : Nat} (hx : x < 2 ^ 32) (hy : y < 2 ^ 32) (h : hexL x 8 = hexL y 8) : x = y := by
  have hk : ∀ k, k < 8 → x / 2 ^ (28 - 4 * k) % 16 = y / 2 ^ (28 - 4 * k) % 16 := fun k hk => by
    have h1 := congrArg (fun l => l.getD k 0) h
    simp only [hexL, List.getD_eq_getElem?_getD, List.getElem?_map, List.getElem?_range hk, Option.map_some, Option.getD_some] at h1
    exact hexC_inj (Nat.mod_lt _ (by decide)) (Nat.mod_lt _ (by decide)) h1
  have k0 := hk 0 (by omega)
  have k1 := hk 1 (by omega)
  have k2 := hk 2 (by omega)
  have k3 := hk 3 (by omega)
  have k4 := hk 4 (by omega)
  have k5 := hk 5 (by omega)
  have k6 := hk 6 (by omega)
  have k7 := hk 7 (by omega)
  simp at k0 k1 k2 k3 k4 k5 k6 k7
  omega

theorem holds3_set {bs : List Nat} {p b : Nat} (h : ∀ x ∈ bs, x ≤ 255) (hb : b ≤ 255) (hp : p < bs.length) (hne : b ≠ bs.getD p 0) : holds3 ((bs ++ hexL (crc bs) 8).set p b) = false := by
  rw [List.set_append_left _ _ hp]
  have hl : (hexL (crc bs) 8).length = 8 := by simp [hexL]
  have hs : ∀ x ∈ bs.set p b, x ≤ 255 := fun x hx => by
    rcases List.mem_or_eq_of_mem_set hx with hx | rfl
    · exact h x hx
    · exact hb
  unfold holds3
  rw [List.length_append, hl, Nat.add_sub_cancel, drop_app, take_app]
  have : ¬ hexL (crc bs) 8 = hexL (crc (bs.set p b)) 8 := fun e => crc_set h hb hp hne (hexL_inj (crc_lt2 h) (crc_lt2 hs) e).symm
  rw [show decide (hexL (crc bs) 8 = hexL (crc (bs.set p b)) 8) = false by simpa using this]
  simp

theorem holds4_off {bs : List Nat} {b : Nat} (h1 : 1 ≤ bs.length) (hne : b ≠ 65 + letTo bs bs.length) : holds4 (bs ++ [b]) = false := by
  rw [holds4_snoc h1]
  simpa using hne

end Go.Proofs.YthofhljbipkiaaaDoor.Ck
