import Derived.Test.YtidpkkekoldkgaaEntMeasure
import Derived.Laws.Bits128
import Derived.Lib.SlBytesConst
namespace Go.Proofs.Ytidpkkekoldkgaa.Ent
open Go.RowKit

theorem and_mask (n : Int) (j : Nat) (hj : j ≤ 62) : bits .and .i64 n ((2 ^ j - 1 : Nat) : Int) = n % ((2 ^ j : Nat) : Int) := by
  have hlt : 2 ^ j ≤ 2 ^ 62 := Nat.pow_le_pow_right (by omega) hj
  have hp : 0 < 2 ^ j := Nat.pow_pos (by omega)
  have h127 : (BitVec.ofInt 64 ((2 ^ j - 1 : Nat) : Int)).toNat = 2 ^ j - 1 := by
    rw [BitVec.ofInt_natCast, BitVec.toNat_ofNat]
    omega
  have key : (BitVec.ofInt 64 n &&& BitVec.ofInt 64 ((2 ^ j - 1 : Nat) : Int)).toNat = (n % ((2 ^ 64 : Nat) : Int)).toNat % 2 ^ j := by
    rw [BitVec.toNat_and, BitVec.toNat_ofInt, h127, Nat.and_two_pow_sub_one_eq_mod]
  show IntKind.i64.wrap ((BitVec.ofInt 64 n &&& BitVec.ofInt 64 ((2 ^ j - 1 : Nat) : Int)).toNat : Nat) = _
  rw [key, IntKind.wrap_i64]
  have hd : ((2 ^ j : Nat) : Int) ∣ ((2 ^ 64 : Nat) : Int) := by
    refine ⟨((2 ^ (64 - j) : Nat) : Int), ?_⟩
    rw [← Int.natCast_mul, ← Nat.pow_add, show j + (64 - j) = 64 from by omega]
  have e1 : (((n % ((2 ^ 64 : Nat) : Int)).toNat % 2 ^ j : Nat) : Int) = n % ((2 ^ j : Nat) : Int) := by
    rw [Int.natCast_emod, Int.toNat_of_nonneg (Int.emod_nonneg _ (by decide)), Int.emod_emod_of_dvd _ hd]
  rw [e1]
  have b0 : 0 ≤ n % ((2 ^ j : Nat) : Int) := Int.emod_nonneg _ (by omega)
  have b1 : n % ((2 ^ j : Nat) : Int) < ((2 ^ j : Nat) : Int) := Int.emod_lt_of_pos _ (by omega)
  omega

theorem and_1048575 (n : Int) : bits .and .i64 n 1048575 = n % 1048576 := and_mask n 20 (by decide)
theorem and_15 (n : Int) : bits .and .i64 n 15 = n % 16 := and_mask n 4 (by decide)
theorem and_255 (n : Int) : bits .and .i64 n 255 = n % 256 := and_mask n 8 (by decide)
theorem and_65535 (n : Int) : bits .and .i64 n 65535 = n % 65536 := and_mask n 16 (by decide)
theorem and_1073741823 (n : Int) : bits .and .i64 n 1073741823 = n % 1073741824 := and_mask n 30 (by decide)
theorem and_31 (n : Int) : bits .and .i64 n 31 = n % 32 := and_mask n 5 (by decide)
theorem and_63 (n : Int) : bits .and .i64 n 63 = n % 64 := and_mask n 6 (by decide)
theorem and_1 (n : Int) : bits .and .i64 n 1 = n % 2 := and_mask n 1 (by decide)

theorem ms_aabb : ms (few [97, 97, 98, 98]) (lgI (4 : Nat)) 256 = 262144 := by decide +kernel

theorem bytes_new (w : World) (bs : List Nat) (cs : Array Value) (fr : Nat × Nat) (h : ∀ b ∈ bs, b ≤ 255) (hc : cs = (bs.map fun b : Nat => Value.int .u8 (b : Int)).toArray) (hm : bs.length ≤ 9223372036854775807) :
    Bytes (w.alloc (.cells cs 5 fr)) (some ⟨w.heap.size, 0, none⟩) bs.length bs := by
  subst hc
  refine ⟨rfl, h, hm, fun _ => ⟨_, _, rfl, by simp, fun j hj => ?_⟩⟩
  rw [Nat.zero_add, cell_of_row _ _ _ _ _ _ (heap_alloc_new _ _)]
  simp [hj]

set_option maxRecDepth 100000 in
set_option maxHeartbeats 400000 in
theorem awake_any (w : World) : Calls Try.prog 15 #[] w fun e w' => e = .returned (.bool true) ∧ Below w.heap.size w w' := by
  have h8 := fun w => log_any 8 w
  rw [lg8] at h8
  have hby := bytes_new w [97, 97, 98, 98] #[.int .u8 97, .int .u8 97, .int .u8 98, .int .u8 98] (4, 5) (by decide) rfl (by decide)
  have hm := measure_any _ 4 4 _ _ hby
  rw [ms_aabb] at hm
  have kc := fun (w : World) (C : Array Value) (n c : Nat) => Lib.run_convert_bytes_const (P := Try.prog) w 27 5 C n c Try.underlying27 Try.underlying5
  have H8 := Lib.hid h8
  have HM := Lib.hid hm
  clear h8 hm hby
  go_enter Try.func15, Try.ntmps15
  go_wp2_with (first
    | (go_at_call 13; refine (H8.out _).mono ?_; rintro e w' ⟨rfl, rfl⟩)
    | (go_at_call 20; refine HM.out.mono ?_; rintro e w' ⟨rfl, hb⟩; have HB := Lib.hid hb; clear hb))
  go_ret
  exact ⟨rfl, ((Below.refl _ _).alloc (Nat.le_refl _) _).trans (HB.out.mono (by simp))⟩
end Go.Proofs.Ytidpkkekoldkgaa.Ent
