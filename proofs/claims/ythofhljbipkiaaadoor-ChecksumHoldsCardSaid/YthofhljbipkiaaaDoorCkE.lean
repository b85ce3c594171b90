import Derived.Test.YthofhljbipkiaaaDoorCkD
import Derived.Deep.RegionHeld3
namespace Go.Proofs.YthofhljbipkiaaaDoor.Ck
open Go.RowKit
open Go.Proofs.YthofhljbipkiaaaDoor.Tp
set_option linter.unusedVariables false

theorem byteArray_data (s : ByteArray) : s.toList = s.data.toList := by
  first | exact ByteArray.toList_eq s | rfl | simp

theorem nums_inj {s t : ByteArray} (h : nums s = nums t) : s.toList = t.toList := by
  rw [byteArray_data, byteArray_data]
  unfold nums at h
  exact (List.map_inj_right (fun x y e => UInt8.toNat_inj.1 e)).1 h

theorem str_eq (s t : ByteArray) : (s.toList == t.toList) = decide (nums s = nums t) := by
  rw [Bool.eq_iff_iff]
  simp only [beq_iff_eq, decide_eq_true_eq]
  refine ⟨fun h => ?_, nums_inj⟩
  rw [byteArray_data, byteArray_data] at h
  unfold nums
  rw [h]

theorem mk_eight : ∀ w : World, (Instr.makeSlice 32 (.int .i64 8) (.int .i64 8)).run Tryd.prog w = .ok (.slice (some ⟨w.heap.size, 0, none⟩) 8 8) (w.alloc (.cells #[.int .u8 0, .int .u8 0, .int .u8 0, .int .u8 0, .int .u8 0, .int .u8 0, .int .u8 0, .int .u8 0] 5)) := fun w => by kernel_rfl

set_option maxRecDepth 100000 in
set_option maxHeartbeats 1000000 in
theorem crctext_any (s : ByteArray) (w : World) (hs : s.size ≤ 100000) : Calls Tryd.prog 34 #[.string s] w fun e w' => e = .returned (.string (strB (hexL (crc (nums s)) 8))) ∧ Below w.heap.size w w' := by
  have hx : crc (nums s) < 2 ^ 32 := Nat.xor_lt_two_pow (crcTo_lt _ (fun j => by have := nb_lt s j; unfold nb at this; exact this) _) (by decide)
  have hmk := mk_eight
  go_enter Tryd.func34, Tryd.ntmps34
  go_wp2_with (go_at_call 15; refine (crc_any _ _ hs).mono ?_; rintro e w1 ⟨rfl, rfl⟩)
  generalize hg : crc (nums s) = x at *
  have HG := Lib.hid hg
  clear hg
  go_wp2
  go_loopw [9] (fun i wr => ∃ (k : Nat) (arr : Array Value), k ≤ 8 ∧ i = .int .i64 (k : Int) ∧ arr.size = 8 ∧ wr.heap[w.heap.size]? = some (.cells arr 5 (0, 0)) ∧ (∀ j, j < k → arr[j]? = some (.int .u8 ((hexK x j : Nat) : Int))) ∧ Below w.heap.size w wr) (fun i _ => (8 - intOf i).toNat)
  case atStart => exact ⟨0, _, by omega, rfl, rfl, heap_alloc_new _ _, fun j hj => absurd hj (by omega), box_below _ _⟩
  case round =>
    obtain ⟨k, arr, hk, rfl, hsz, hrow, hc, hb⟩ := hrel
    have HB := Lib.hid hb
    have HC := Lib.hid hc
    clear hb hc
    by_cases hlt : k < 8
    · have hd : x / 2 ^ (28 - 4 * k) % 16 < 16 := Nat.mod_lt _ (by decide)
      have hexp : 4 * (7 - k) = 28 - 4 * k := by omega
      have hcast : (x : Int) / 2 ^ (4 * (7 - k)) = ((x / 2 ^ (28 - 4 * k) : Nat) : Int) := by rw [hexp]; simp
      have hand : bits .and .u32 ((x : Int) / 2 ^ (4 * (7 - k))) 15 = ((x / 2 ^ (28 - 4 * k) % 16 : Nat) : Int) := by
        rw [hcast]
        exact and15 _ (Nat.lt_of_le_of_lt (Nat.div_le_self _ _) hx)
      clear hcast hexp
      have hix := hex_at _ hd
      have HK := Lib.hid (show hexK x k = hexC (x / 2 ^ (28 - 4 * k) % 16) from rfl)
      have hle := hexC_le hd
      generalize x / 2 ^ (28 - 4 * k) % 16 = d at *
      generalize hexC d = b at *
      have hfr := frozen_of_row wr w.heap.size k arr 5 hrow
      have hcell := cell_of_row wr w.heap.size k arr 5 (0, 0) hrow
      have hgo : arr[k]? = some (arr[k]'(by omega)) := Array.getElem?_eq_getElem _
      rw [hgo] at hcell
      have HROW := Lib.hid hrow
      clear hrow hgo
      go_wp2
      refine ⟨⟨k + 1, arr.setIfInBounds k (.int .u8 (b : Int)), by omega, by go_num, by simpa using hsz, ?_, ?_, ?_⟩, by simp [intOf]; omega⟩
      · exact heap_setCell_same _ _ _ _ _ _ HROW.out
      · intro j hj
        rw [Array.getElem?_setIfInBounds]
        split
        · rename_i e
          subst e
          rw [if_pos (by omega), HK.out]
        · exact HC.out j (by omega)
      · exact HB.out.setCell (Nat.le_refl _) _
    · obtain rfl : k = 8 := by omega
      have hsome : ∀ i (hi : i < (hexL x 8).length), wr.cell? ⟨w.heap.size, 0 + i, none⟩ = some (.int .u8 (((hexL x 8)[i] : Nat) : Int)) := by
        intro i hi
        have hi8 : i < 8 := by simpa [hexL] using hi
        rw [Nat.zero_add, cell_of_row wr w.heap.size i arr 5 (0, 0) hrow, HC.out i hi8]
        simp [hexL]
      have hconv : ∀ c, (convert 32 9 (.slice (some ⟨w.heap.size, 0, none⟩) 8 c)).run Tryd.prog wr = .ok (.string (strB (hexL x 8))) wr := fun c =>
        run_convert_bytes_arg wr 32 5 Tryd.underlying32 Tryd.underlying5 w.heap.size 0 8 c _ (by simp [hexL]) (fun i hi => by rw [hsome i (by simpa [hexL] using hi)]; simp [show i < (hexL x 8).length from by simpa [hexL] using hi]) 9 Tryd.underlying9
      clear hsome
      go_wp2
      go_ret
      exact ⟨by rw [HG.out]; rfl, HB.out⟩

theorem valid_any (c : Int) (w : World) : Calls Tryd.prog 21 #[.int .i64 c] w fun e w' => e = .returned (.bool (decide (0 ≤ c ∧ c ≤ 4))) ∧ w = w' := by
  by_cases h1 : 0 ≤ c
  · have h : decide (0 ≤ c) = true := decide_eq_true h1
    have hv : decide (0 ≤ c ∧ c ≤ 4) = decide (c ≤ 4) := by rw [Bool.eq_iff_iff]; simp; omega
    go_enter Tryd.func21, Tryd.ntmps21
    go_wp2
    go_ret
    exact ⟨by first | rfl | (rw [hv]; rfl), rfl⟩
  · have h : decide (0 ≤ c) = false := decide_eq_false h1
    have hv : decide (0 ≤ c ∧ c ≤ 4) = false := by rw [decide_eq_false_iff_not]; omega
    go_enter Tryd.func21, Tryd.ntmps21
    go_wp2
    go_ret
    exact ⟨by first | rfl | (rw [hv]; rfl), rfl⟩

theorem refvalid_any (c : Int) (w : World) : Calls Tryd.prog 22 #[.int .i64 c] w fun e w' => e = .returned (.bool (decide (0 ≤ c ∧ c ≤ 4))) ∧ w = w' := by
  by_cases h1 : 0 ≤ c
  · have h : decide (0 ≤ c) = true := decide_eq_true h1
    have hv : decide (0 ≤ c ∧ c ≤ 4) = decide (c ≤ 4) := by rw [Bool.eq_iff_iff]; simp; omega
    go_enter Tryd.func22, Tryd.ntmps22
    go_wp2
    go_ret
    exact ⟨by first | rfl | (rw [hv]; rfl), rfl⟩
  · have h : decide (0 ≤ c) = false := decide_eq_false h1
    have hv : decide (0 ≤ c ∧ c ≤ 4) = false := by rw [decide_eq_false_iff_not]; omega
    go_enter Tryd.func22, Tryd.ntmps22
    go_wp2
    go_ret
    exact ⟨by first | rfl | (rw [hv]; rfl), rfl⟩

end Go.Proofs.YthofhljbipkiaaaDoor.Ck
