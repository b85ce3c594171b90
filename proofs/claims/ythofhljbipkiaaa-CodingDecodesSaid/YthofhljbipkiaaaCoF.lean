import Derived.Test.YthofhljbipkiaaaCoD1
namespace Go.Proofs.Ythofhljbipkiaaa.Co
open Go.RowKit
open Go.Proofs.Ythofhljbipkiaaa.Tp
set_option linter.unusedVariables false

theorem row4 (W : World) (A B C D : Value) : (W.alloc (.cells #[A, B, C, D] 5)).frozen? ⟨W.heap.size, 2, none⟩ = false ∧ (W.alloc (.cells #[A, B, C, D] 5)).frozen? ⟨W.heap.size, 3, none⟩ = false ∧
    (W.alloc (.cells #[A, B, C, D] 5)).cell? ⟨W.heap.size, 2, none⟩ = some C ∧ (W.alloc (.cells #[A, B, C, D] 5)).cell? ⟨W.heap.size, 3, none⟩ = some D := by
  have h := heap_alloc_new W (.cells #[A, B, C, D] 5)
  refine ⟨frozen_of_row _ _ _ _ _ h, frozen_of_row _ _ _ _ _ h, ?_, ?_⟩
  · rw [cell_of_row _ _ _ _ _ _ h]; rfl
  · rw [cell_of_row _ _ _ _ _ _ h]; rfl

theorem set4 (W : World) (A B C D E : Value) (hE : E.oneCell' = true) (hC : C.oneCell' = true) (hD : D.oneCell' = true) : (W.alloc (.cells #[A, B, C, D] 5)).setCell ⟨W.heap.size, 2, none⟩ E = W.alloc (.cells #[A, B, E, D] 5) ∧
    (W.alloc (.cells #[A, B, C, D] 5)).setCell ⟨W.heap.size, 3, none⟩ E = W.alloc (.cells #[A, B, C, E] 5) := by
  have key : ∀ (f : Obj → Obj) (o : Obj), (W.heap.push o).modify W.heap.size f = W.heap.push (f o) := fun f o => by
    apply Array.ext
    · simp
    · intro i h1 h2
      rw [Array.getElem_modify, Array.getElem_push, Array.getElem_push]
      by_cases hi : i < W.heap.size
      · rw [dif_pos hi, dif_pos hi, if_neg (by omega)]
      · rw [dif_neg hi, dif_neg hi, if_pos (by simp at h1; omega)]
  have e : ∀ (o : Obj) (a : Addr) (v : Value), a.block = W.heap.size → (W.alloc o).setCell a v = W.alloc (match o with
      | .cells c elem frozen => .cells (if a.spot.isSome then c else c.setIfInBounds a.off v) elem frozen
      | o => o) := fun o a v ha => by
    show ({ W with heap := (W.heap.push o).modify a.block _ } : World) = ({ W with heap := W.heap.push _ } : World)
    rw [ha, key]
    cases o <;> rfl
  exact ⟨(e _ _ _ rfl).trans rfl, (e _ _ _ rfl).trans rfl⟩

theorem or_i64 (x y : Nat) (m : Nat) (h : y < 2 ^ m) (hm : 2 ^ m ∣ x) (hs : x + y < 9223372036854775808) : bits .or .i64 (x : Int) (y : Int) = ((x + y : Nat) : Int) := by
  have key : (BitVec.ofInt 64 (x : Int) ||| BitVec.ofInt 64 (y : Int)).toNat = x + y := by
    rw [BitVec.toNat_or, BitVec.ofInt_natCast, BitVec.ofInt_natCast, BitVec.toNat_ofNat, BitVec.toNat_ofNat, Nat.mod_eq_of_lt (by omega), Nat.mod_eq_of_lt (by omega), or_add .u8 x y m h hm]
  show IntKind.i64.wrap ((BitVec.ofInt 64 (x : Int) ||| BitVec.ofInt 64 (y : Int)).toNat : Nat) = _
  rw [key, IntKind.wrap_i64]
  omega

theorem and63i (a : Nat) (ha : a < 2 ^ 62) : bits .and .i64 (a : Int) 63 = ((a % 64 : Nat) : Int) := by
  have key : (BitVec.ofInt 64 (a : Int) &&& BitVec.ofInt 64 63).toNat = a % 2 ^ 6 := by
    rw [BitVec.toNat_and, BitVec.ofInt_natCast, BitVec.toNat_ofNat, Nat.mod_eq_of_lt (by omega), show (BitVec.ofInt 64 63).toNat = 2 ^ 6 - 1 by decide, Nat.and_two_pow_sub_one_eq_mod]
  show IntKind.i64.wrap ((BitVec.ofInt 64 (a : Int) &&& BitVec.ofInt 64 63).toNat : Nat) = _
  rw [key, IntKind.wrap_i64]
  have := Nat.mod_lt a (show 0 < 2 ^ 6 by decide)
  omega

/-- The numbers of a group of three bytes, as the specification counts them. -/
theorem ref_nums (a b d : Nat) (ha : a ≤ 255) (hb : b ≤ 255) (hd : d ≤ 255) : ∃ z1 z2 z3 y1 z4 y2 y3 y4 z5 z6 : Nat,
    (a : Int) * 65536 = (z1 : Int) ∧ (b : Int) * 256 = (z2 : Int) ∧ bits .or .i64 (z1 : Int) (z2 : Int) = (z3 : Int) ∧ bits .or .i64 (z3 : Int) (d : Int) = (z4 : Int) ∧
    (z4 : Int) / 262144 = (y1 : Int) ∧ (z4 : Int) / 4096 = (z5 : Int) ∧ bits .and .i64 (z5 : Int) 63 = (y2 : Int) ∧ (z4 : Int) / 64 = (z6 : Int) ∧ bits .and .i64 (z6 : Int) 63 = (y3 : Int) ∧ bits .and .i64 (z4 : Int) 63 = (y4 : Int) ∧
    (y1 = a / 4 ∧ y2 = a % 4 * 16 + b / 16 ∧ y3 = b % 16 * 4 + d / 64 ∧ y4 = d % 64 ∧ (b = 0 → z3 = z1) ∧ (d = 0 → z4 = z3)) ∧ y1 < 64 ∧ y2 < 64 ∧ y3 < 64 ∧ y4 < 64 ∧ z1 < 16777216 ∧ z2 < 65536 ∧ z3 < 16777216 ∧ z4 < 16777216 ∧ z5 < 4096 ∧ z6 < 262144 := by
  have hz : (a * 65536 + b * 256 + d) / 4096 = a * 16 + b / 16 := by omega
  have hz2 : (a * 65536 + b * 256 + d) / 64 = a * 1024 + b * 4 + d / 64 := by omega
  refine ⟨a * 65536, b * 256, a * 65536 + b * 256, a / 4, a * 65536 + b * 256 + d, a % 4 * 16 + b / 16, b % 16 * 4 + d / 64, d % 64, (a * 65536 + b * 256 + d) / 4096, (a * 65536 + b * 256 + d) / 64, by omega, by omega, ?_, ?_, by omega, by omega, ?_, by omega, ?_, ?_, ⟨rfl, rfl, rfl, rfl, by intro h; omega, by intro h; omega⟩, by omega, by omega, by omega, by omega, by omega, by omega, by omega, by omega, by omega, by omega⟩
  · exact or_i64 _ _ 16 (by omega) ⟨a, by omega⟩ (by omega)
  · exact or_i64 _ _ 8 (by omega) ⟨a * 256 + b, by omega⟩ (by omega)
  · rw [and63i _ (by omega)]; omega
  · rw [and63i _ (by omega)]; omega
  · rw [and63i _ (by omega)]; omega

theorem drop_cons {bs : List Nat} {k : Nat} (h : k < bs.length) : bs.drop k = bs.getD k 0 :: bs.drop (k + 1) := by
  rw [List.drop_eq_getElem_cons h]
  simp [h]


end Go.Proofs.Ythofhljbipkiaaa.Co
