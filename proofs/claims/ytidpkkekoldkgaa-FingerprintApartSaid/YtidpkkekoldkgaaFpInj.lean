import Derived.Test.YtidpkkekoldkgaaFpOf
namespace Go.Proofs.Ytidpkkekoldkgaa.Fp
open Go.RowKit
set_option linter.unusedVariables false

/-- Mix on 64 bits. -/
def xs (k : Nat) (X : BitVec 64) : BitVec 64 := X ^^^ (X >>> k)
def mixB (X : BitVec 64) : BitVec 64 := xs 31 (xs 27 (xs 30 X * 13787848793156543929#64) * 10723151780598845931#64)

theorem xs_inj {k : Nat} (hk : 22 ≤ k) {X Y : BitVec 64} (h : xs k X = xs k Y) : X = Y := by
  have inv : ∀ Z : BitVec 64, xs k Z ^^^ (xs k Z >>> k) ^^^ (xs k Z >>> (k + k)) = Z := by
    intro Z
    unfold xs
    apply BitVec.eq_of_getLsbD_eq
    intro i hi
    simp only [BitVec.getLsbD_xor, BitVec.getLsbD_ushiftRight]
    have e1 : k + k + (k + i) = k + (k + (k + i)) := by omega
    have e2 : Z.getLsbD (k + (k + (k + i))) = false := BitVec.getLsbD_of_ge _ _ (by omega)
    have e3 : k + (k + k + i) = k + (k + (k + i)) := by omega
    have e4 : k + k + i = k + (k + i) := by omega
    rw [e3, e2, e4]
    cases Z.getLsbD i <;> cases Z.getLsbD (k + i) <;> cases Z.getLsbD (k + (k + i)) <;> rfl
  have hx := inv X
  rw [h, inv Y] at hx
  exact hx.symm

theorem mul_inj {c d X Y : BitVec 64} (hcd : c * d = 1#64) (h : X * c = Y * c) : X = Y := by
  have : X * c * d = Y * c * d := by rw [h]
  rw [BitVec.mul_assoc, BitVec.mul_assoc, hcd, BitVec.mul_one, BitVec.mul_one] at this
  exact this

theorem u64_wrap (n : Int) : IntKind.u64.wrap n = n % 18446744073709551616 := by simp [IntKind.wrap, IntKind.bits, IntKind.signed]

theorem xor_bv (a b : Nat) (ha : a < 2 ^ 64) (hb : b < 2 ^ 64) : bits .xor .u64 (a : Int) (b : Int) = ((a ^^^ b : Nat) : Int) := by
  show IntKind.u64.wrap ((BitVec.ofInt 64 (a : Int) ^^^ BitVec.ofInt 64 (b : Int)).toNat : Nat) = _
  rw [BitVec.ofInt_natCast, BitVec.ofInt_natCast, BitVec.toNat_xor, BitVec.toNat_ofNat, BitVec.toNat_ofNat, Nat.mod_eq_of_lt ha, Nat.mod_eq_of_lt hb, u64_wrap]
  have := Nat.xor_lt_two_pow ha hb
  omega

theorem xs_int (k : Nat) (X : BitVec 64) (d : Int) (hd : d = ((2 ^ k : Nat) : Int)) : bits .xor .u64 (X.toNat : Int) ((X.toNat : Int) / d) = ((xs k X).toNat : Int) := by
  have e : (X.toNat : Int) / d = ((X.toNat / 2 ^ k : Nat) : Int) := by rw [hd]; simp
  have hl : X.toNat / 2 ^ k < 2 ^ 64 := Nat.lt_of_le_of_lt (Nat.div_le_self _ _) X.isLt
  rw [e, xor_bv _ _ X.isLt hl]
  unfold xs
  rw [BitVec.toNat_xor, BitVec.toNat_ushiftRight, Nat.shiftRight_eq_div_pow]

theorem mul_int (X : BitVec 64) (c : Nat) : IntKind.u64.wrap ((X.toNat : Int) * (c : Int)) = ((X * BitVec.ofNat 64 c).toNat : Int) := by
  rw [u64_wrap, BitVec.toNat_mul, BitVec.toNat_ofNat, Nat.mul_mod_mod, ← Int.natCast_mul]
  rfl

theorem mixI_bv (X : BitVec 64) : mixI (X.toNat : Int) = ((mixB X).toNat : Int) := by
  unfold mixI
  rw [xs_int 30 X 1073741824 (by decide)]
  have e1 := mul_int (xs 30 X) 13787848793156543929
  have e1' : IntKind.u64.wrap (((xs 30 X).toNat : Int) * 13787848793156543929) = ((xs 30 X * 13787848793156543929#64).toNat : Int) := e1
  rw [e1', xs_int 27 _ 134217728 (by decide)]
  have e2 := mul_int (xs 27 (xs 30 X * 13787848793156543929#64)) 10723151780598845931
  have e2' : IntKind.u64.wrap (((xs 27 (xs 30 X * 13787848793156543929#64)).toNat : Int) * 10723151780598845931) = ((xs 27 (xs 30 X * 13787848793156543929#64) * 10723151780598845931#64).toNat : Int) := e2
  rw [e2', xs_int 31 _ 2147483648 (by decide)]
  rfl

theorem mixB_inj {X Y : BitVec 64} (h : mixB X = mixB Y) : X = Y := by
  unfold mixB at h
  have h1 := xs_inj (by omega) h
  have h2 := mul_inj (d := 3573116690164977347#64) (by decide) h1
  have h3 := xs_inj (by omega) h2
  have h4 := mul_inj (d := 10871156337175269513#64) (by decide) h3
  exact xs_inj (by omega) h4

theorem as_bv {x : Int} (h0 : 0 ≤ x) (h1 : x ≤ 18446744073709551615) : ∃ X : BitVec 64, x = (X.toNat : Int) := by
  refine ⟨BitVec.ofNat 64 x.toNat, ?_⟩
  rw [BitVec.toNat_ofNat, Nat.mod_eq_of_lt (by omega), Int.toNat_of_nonneg h0]

theorem mixI_inj {x y : Int} (hx0 : 0 ≤ x) (hx1 : x ≤ 18446744073709551615) (hy0 : 0 ≤ y) (hy1 : y ≤ 18446744073709551615) : mixI x = mixI y ↔ x = y := by
  obtain ⟨X, rfl⟩ := as_bv hx0 hx1
  obtain ⟨Y, rfl⟩ := as_bv hy0 hy1
  rw [mixI_bv, mixI_bv]
  constructor
  · intro h
    have : mixB X = mixB Y := BitVec.eq_of_toNat_eq (by omega)
    rw [mixB_inj this]
  · intro h
    have : X = Y := BitVec.eq_of_toNat_eq (by omega)
    rw [this]

theorem mixI_bd (x : Int) (h0 : 0 ≤ x) (h1 : x ≤ 18446744073709551615) : 0 ≤ mixI x ∧ mixI x ≤ 18446744073709551615 := by
  obtain ⟨X, rfl⟩ := as_bv h0 h1
  rw [mixI_bv]
  have := (mixB X).isLt
  omega

theorem bits_bd (o : BinOp) (a b : Int) : 0 ≤ bits .xor .u64 a b ∧ bits .xor .u64 a b ≤ 18446744073709551615 := by
  have : bits .xor .u64 a b = IntKind.u64.wrap ((BitVec.ofInt 64 a ^^^ BitVec.ofInt 64 b).toNat : Nat) := rfl
  rw [this, u64_wrap]
  omega
end Go.Proofs.Ytidpkkekoldkgaa.Fp
