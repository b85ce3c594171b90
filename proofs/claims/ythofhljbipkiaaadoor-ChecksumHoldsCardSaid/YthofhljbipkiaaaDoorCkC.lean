import Derived.Test.YthofhljbipkiaaaDoorCkB
namespace Go.Proofs.YthofhljbipkiaaaDoor.Ck
open Go.RowKit
set_option linter.unusedVariables false

def crcS (x : Nat) : Nat := if x % 2 = 1 then (x / 2) ^^^ 3988292384 else x / 2
def crcB (x : Nat) : Nat → Nat
  | 0 => x
  | k + 1 => crcS (crcB x k)
def crcTo (bs : List Nat) : Nat → Nat
  | 0 => 4294967295
  | k + 1 => crcB (crcTo bs k ^^^ bs.getD k 0) 8

theorem crcS_lt {x : Nat} (h : x < 2 ^ 32) : crcS x < 2 ^ 32 := by
  unfold crcS
  split
  · exact Nat.xor_lt_two_pow (by omega) (by decide)
  · omega

theorem crcB_lt {x : Nat} (h : x < 2 ^ 32) (k : Nat) : crcB x k < 2 ^ 32 := by
  induction k with
  | zero => exact h
  | succ k ih => exact crcS_lt ih

theorem crcTo_lt (bs : List Nat) (h : ∀ j, bs.getD j 0 ≤ 255) (k : Nat) : crcTo bs k < 2 ^ 32 := by
  induction k with
  | zero => show 4294967295 < 2 ^ 32; decide
  | succ k ih => exact crcB_lt (Nat.xor_lt_two_pow ih (Nat.lt_of_le_of_lt (h k) (by decide))) 8

theorem u32_wrap (n : Int) : IntKind.u32.wrap n = n % 4294967296 := by simp [IntKind.wrap, IntKind.bits, IntKind.signed]

theorem xor32 (a b : Nat) (ha : a < 2 ^ 32) (hb : b < 2 ^ 32) : bits .xor .u32 (a : Int) (b : Int) = ((a ^^^ b : Nat) : Int) := by
  show IntKind.u32.wrap ((BitVec.ofInt 32 (a : Int) ^^^ BitVec.ofInt 32 (b : Int)).toNat : Nat) = _
  rw [BitVec.ofInt_natCast, BitVec.ofInt_natCast, BitVec.toNat_xor, BitVec.toNat_ofNat, BitVec.toNat_ofNat, Nat.mod_eq_of_lt ha, Nat.mod_eq_of_lt hb, u32_wrap]
  have := Nat.xor_lt_two_pow ha hb
  omega

theorem and32 (a b : Nat) (ha : a < 2 ^ 32) (hb : b < 2 ^ 32) : bits .and .u32 (a : Int) (b : Int) = ((a &&& b : Nat) : Int) := by
  show IntKind.u32.wrap ((BitVec.ofInt 32 (a : Int) &&& BitVec.ofInt 32 (b : Int)).toNat : Nat) = _
  rw [BitVec.ofInt_natCast, BitVec.ofInt_natCast, BitVec.toNat_and, BitVec.toNat_ofNat, BitVec.toNat_ofNat, Nat.mod_eq_of_lt ha, Nat.mod_eq_of_lt hb, u32_wrap]
  have : a &&& b ≤ a := Nat.and_le_left
  omega

theorem and1 (a : Nat) (ha : a < 2 ^ 32) : bits .and .u32 (a : Int) 1 = ((a % 2 : Nat) : Int) := by
  rw [show (1 : Int) = ((1 : Nat) : Int) from rfl, and32 a 1 ha (by decide), Nat.and_one_is_mod]

theorem xorK (a : Nat) (ha : a < 2 ^ 32) : bits .xor .u32 ((a : Int) / 2) 3988292384 = ((a / 2 ^^^ 3988292384 : Nat) : Int) := by
  rw [show (a : Int) / 2 = ((a / 2 : Nat) : Int) by simp, show (3988292384 : Int) = ((3988292384 : Nat) : Int) from rfl, xor32 _ _ (by omega) (by decide)]

theorem xorF (a : Nat) (ha : a < 2 ^ 32) : bits .xor .u32 (a : Int) 4294967295 = ((a ^^^ 4294967295 : Nat) : Int) := by
  rw [show (4294967295 : Int) = ((4294967295 : Nat) : Int) from rfl, xor32 _ _ ha (by decide)]

theorem xorM (a : Nat) (ha : a < 2 ^ 32) : bits .xor .u32 IntKind.u32.max (a : Int) = ((a ^^^ 4294967295 : Nat) : Int) := by
  rw [show IntKind.u32.max = ((4294967295 : Nat) : Int) from rfl, xor32 _ _ (by decide) ha, Nat.xor_comm]

def crc (bs : List Nat) : Nat := crcTo bs bs.length ^^^ 4294967295

set_option maxRecDepth 100000 in
set_option maxHeartbeats 1000000 in
theorem crc_any (s : ByteArray) (w : World) (hs : s.size ≤ 100000) : Calls Tryd.prog 15 #[.string s] w fun e w' => e = .returned (.int .u32 (crc (nums s) : Nat)) ∧ w = w' := by
  have hL := Lib.hid (nums_length s)
  have hB := Lib.hid (fun j => nb_lt s j)
  go_enter Tryd.func15, Tryd.ntmps15
  go_wp2
  go_loopw [3, 7] (fun r i w' => w' = w ∧ ∃ k : Nat, k ≤ s.size ∧ i = .int .i64 k ∧ r = .int .u32 (crcTo (nums s) k : Nat)) (fun _ i _ => s.size - (intOf i).toNat)
  case atStart => exact ⟨rfl, 0, by omega, rfl, rfl⟩
  case round =>
    obtain ⟨rfl, k, hk, rfl, rfl⟩ := hrel
    have hr := crcTo_lt (nums s) hB.out k
    by_cases hlt : k < s.size
    · have hnb := nb_at s k hlt
      have hc := nb_lt s k
      have hst : crcTo (nums s) (k + 1) = crcB (crcTo (nums s) k ^^^ nb s k) 8 := rfl
      have HST := Lib.hid hst
      clear hst
      generalize nb s k = c at *
      generalize crcTo (nums s) k = r at *
      have hx := xor32 r c hr (by omega)
      have hxl : r ^^^ c < 2 ^ 32 := Nat.xor_lt_two_pow hr (by omega)
      generalize r ^^^ c = x at *
      have hx0 : crcB x 0 = x := rfl
      go_wp2
      go_loopw [3, 16] (fun r i w' => w' = wr ∧ ∃ j : Nat, j ≤ 8 ∧ i = .int .i64 j ∧ r = .int .u32 (crcB x j : Nat)) (fun _ i _ => 8 - (intOf i).toNat)
      case atStart => exact ⟨rfl, 0, by omega, rfl, rfl⟩
      case round =>
        obtain ⟨rfl, j, hj, rfl, rfl⟩ := hrel
        have hy := crcB_lt hxl j
        by_cases hj8 : j < 8
        · have hst2 : crcB x (j + 1) = crcS (crcB x j) := rfl
          have HST2 := Lib.hid hst2
          clear hst2
          generalize crcB x j = y at *
          have ha := and1 y hy
          have hxk := xorK y hy
          by_cases hodd : y % 2 = 1
          · have hv : crcS y = (y / 2) ^^^ 3988292384 := by unfold crcS; rw [if_pos hodd]
            have HV := Lib.hid (HST2.out.trans hv)
            rw [hodd] at ha
            clear hv HST2
            go_wp2
            exact ⟨⟨trivial, j + 1, by omega, by go_num, by rw [HV.out]⟩, by simp [intOf]; omega⟩
          · have hv : crcS y = y / 2 := by unfold crcS; rw [if_neg hodd]
            have HV := Lib.hid (HST2.out.trans hv)
            rw [show y % 2 = 0 by omega] at ha
            clear hv HST2
            go_wp2
            exact ⟨⟨trivial, j + 1, by omega, by go_num, by rw [HV.out]; simp⟩, by simp [intOf]; omega⟩
        · obtain rfl : j = 8 := by omega
          generalize crcB x 8 = z at *
          go_wp2
          exact ⟨⟨trivial, k + 1, by omega, by go_num, by rw [HST.out]⟩, by simp [intOf]; omega⟩
    · obtain rfl : k = s.size := by omega
      have hfin := Lib.hid (show crc (nums s) = crcTo (nums s) s.size ^^^ 4294967295 by unfold crc; rw [hL.out])
      have hxf := xorF _ hr
      have hxm := xorM _ hr
      generalize crcTo (nums s) s.size = r at *
      go_wp2
      go_ret
      exact ⟨by rw [hfin.out]; first | rfl | (simp only [hxm]; rfl) | (simp only [hxf]; rfl) | go_loud (fail "D"), rfl⟩

set_option maxRecDepth 100000 in
set_option maxHeartbeats 1000000 in
theorem refcrc_any (s : ByteArray) (w : World) (hs : s.size ≤ 100000) : Calls Tryd.prog 16 #[.string s] w fun e w' => e = .returned (.int .u32 (crc (nums s) : Nat)) ∧ w = w' := by
  have hL := Lib.hid (nums_length s)
  have hB := Lib.hid (fun j => nb_lt s j)
  go_enter Tryd.func16, Tryd.ntmps16
  go_wp2
  go_loopw [3, 4] (fun r i w' => w' = w ∧ ∃ k : Nat, k ≤ s.size ∧ i = .int .i64 k ∧ r = .int .u32 (crcTo (nums s) k : Nat)) (fun _ i _ => s.size - (intOf i).toNat)
  case atStart => exact ⟨rfl, 0, by omega, rfl, rfl⟩
  case round =>
    obtain ⟨rfl, k, hk, rfl, rfl⟩ := hrel
    have hr := crcTo_lt (nums s) hB.out k
    by_cases hlt : k < s.size
    · have hnb := nb_at s k hlt
      have hc := nb_lt s k
      have hst : crcTo (nums s) (k + 1) = crcB (crcTo (nums s) k ^^^ nb s k) 8 := rfl
      have HST := Lib.hid hst
      clear hst
      generalize nb s k = c at *
      generalize crcTo (nums s) k = r at *
      have hx := xor32 r c hr (by omega)
      have hxl : r ^^^ c < 2 ^ 32 := Nat.xor_lt_two_pow hr (by omega)
      generalize r ^^^ c = x at *
      have hx0 : crcB x 0 = x := rfl
      go_wp2
      go_loopw [3, 5] (fun r i w' => w' = wr ∧ ∃ j : Nat, j ≤ 8 ∧ i = .int .i64 j ∧ r = .int .u32 (crcB x j : Nat)) (fun _ i _ => 8 - (intOf i).toNat)
      case atStart => exact ⟨rfl, 0, by omega, rfl, rfl⟩
      case round =>
        obtain ⟨rfl, j, hj, rfl, rfl⟩ := hrel
        have hy := crcB_lt hxl j
        by_cases hj8 : j < 8
        · have hst2 : crcB x (j + 1) = crcS (crcB x j) := rfl
          have HST2 := Lib.hid hst2
          clear hst2
          generalize crcB x j = y at *
          have ha := and1 y hy
          have hxk := xorK y hy
          by_cases hodd : y % 2 = 1
          · have hv : crcS y = (y / 2) ^^^ 3988292384 := by unfold crcS; rw [if_pos hodd]
            have HV := Lib.hid (HST2.out.trans hv)
            rw [hodd] at ha
            clear hv HST2
            go_wp2
            exact ⟨⟨trivial, j + 1, by omega, by go_num, by rw [HV.out]⟩, by simp [intOf]; omega⟩
          · have hv : crcS y = y / 2 := by unfold crcS; rw [if_neg hodd]
            have HV := Lib.hid (HST2.out.trans hv)
            rw [show y % 2 = 0 by omega] at ha
            clear hv HST2
            go_wp2
            exact ⟨⟨trivial, j + 1, by omega, by go_num, by rw [HV.out]; simp⟩, by simp [intOf]; omega⟩
        · obtain rfl : j = 8 := by omega
          generalize crcB x 8 = z at *
          go_wp2
          exact ⟨⟨trivial, k + 1, by omega, by go_num, by rw [HST.out]⟩, by simp [intOf]; omega⟩
    · obtain rfl : k = s.size := by omega
      have hfin := Lib.hid (show crc (nums s) = crcTo (nums s) s.size ^^^ 4294967295 by unfold crc; rw [hL.out])
      have hxf := xorF _ hr
      have hxm := xorM _ hr
      generalize crcTo (nums s) s.size = r at *
      go_wp2
      go_ret
      exact ⟨by rw [hfin.out]; first | rfl | (simp only [hxm]; rfl) | (simp only [hxf]; rfl) | go_loud (fail "D"), rfl⟩


end Go.Proofs.YthofhljbipkiaaaDoor.Ck
