import Derived.Test.YthofhljbipkiaaaCoC
namespace Go.Proofs.Ythofhljbipkiaaa.Co
open Go.RowKit
open Go.Proofs.Ythofhljbipkiaaa.Tp
set_option linter.unusedVariables false

def sgC (d : Nat) : Nat := if d < 26 then 65 + d else if d < 52 then 71 + d else if d < 62 then d - 4 else if d = 62 then 43 else 47

set_option maxRecDepth 100000 in
set_option maxHeartbeats 4000000 in
theorem sg_at (d : Nat) (h : d < 64) : ∀ w, (Instr.index 9 (.string { data := #[65, 66, 67, 68, 69, 70, 71, 72, 73, 74, 75, 76, 77, 78, 79, 80, 81, 82, 83, 84, 85, 86, 87, 88, 89, 90, 97, 98, 99, 100, 101, 102, 103, 104, 105, 106, 107, 108, 109, 110, 111, 112, 113, 114, 115, 116, 117, 118, 119, 120, 121, 122, 48, 49, 50, 51, 52, 53, 54, 55, 56, 57, 43, 47] }) (.int .u8 (d : Int))).run Try.prog w = .ok (.int .u8 (sgC d : Nat)) w := by
  rcases (by omega : d = 0 ∨ d = 1 ∨ d = 2 ∨ d = 3 ∨ d = 4 ∨ d = 5 ∨ d = 6 ∨ d = 7 ∨ d = 8 ∨ d = 9 ∨ d = 10 ∨ d = 11 ∨ d = 12 ∨ d = 13 ∨ d = 14 ∨ d = 15 ∨ d = 16 ∨ d = 17 ∨ d = 18 ∨ d = 19 ∨ d = 20 ∨ d = 21 ∨ d = 22 ∨ d = 23 ∨ d = 24 ∨ d = 25 ∨ d = 26 ∨ d = 27 ∨ d = 28 ∨ d = 29 ∨ d = 30 ∨ d = 31 ∨ d = 32 ∨ d = 33 ∨ d = 34 ∨ d = 35 ∨ d = 36 ∨ d = 37 ∨ d = 38 ∨ d = 39 ∨ d = 40 ∨ d = 41 ∨ d = 42 ∨ d = 43 ∨ d = 44 ∨ d = 45 ∨ d = 46 ∨ d = 47 ∨ d = 48 ∨ d = 49 ∨ d = 50 ∨ d = 51 ∨ d = 52 ∨ d = 53 ∨ d = 54 ∨ d = 55 ∨ d = 56 ∨ d = 57 ∨ d = 58 ∨ d = 59 ∨ d = 60 ∨ d = 61 ∨ d = 62 ∨ d = 63) with rfl | rfl | rfl | rfl | rfl | rfl | rfl | rfl | rfl | rfl | rfl | rfl | rfl | rfl | rfl | rfl | rfl | rfl | rfl | rfl | rfl | rfl | rfl | rfl | rfl | rfl | rfl | rfl | rfl | rfl | rfl | rfl | rfl | rfl | rfl | rfl | rfl | rfl | rfl | rfl | rfl | rfl | rfl | rfl | rfl | rfl | rfl | rfl | rfl | rfl | rfl | rfl | rfl | rfl | rfl | rfl | rfl | rfl | rfl | rfl | rfl | rfl | rfl | rfl
  all_goals exact fun w => by kernel_rfl

set_option maxRecDepth 100000 in
set_option maxHeartbeats 4000000 in
theorem sg_ati (d : Nat) (h : d < 64) : ∀ w, (Instr.index 9 (.string { data := #[65, 66, 67, 68, 69, 70, 71, 72, 73, 74, 75, 76, 77, 78, 79, 80, 81, 82, 83, 84, 85, 86, 87, 88, 89, 90, 97, 98, 99, 100, 101, 102, 103, 104, 105, 106, 107, 108, 109, 110, 111, 112, 113, 114, 115, 116, 117, 118, 119, 120, 121, 122, 48, 49, 50, 51, 52, 53, 54, 55, 56, 57, 43, 47] }) (.int .i64 (d : Int))).run Try.prog w = .ok (.int .u8 (sgC d : Nat)) w := by
  rcases (by omega : d = 0 ∨ d = 1 ∨ d = 2 ∨ d = 3 ∨ d = 4 ∨ d = 5 ∨ d = 6 ∨ d = 7 ∨ d = 8 ∨ d = 9 ∨ d = 10 ∨ d = 11 ∨ d = 12 ∨ d = 13 ∨ d = 14 ∨ d = 15 ∨ d = 16 ∨ d = 17 ∨ d = 18 ∨ d = 19 ∨ d = 20 ∨ d = 21 ∨ d = 22 ∨ d = 23 ∨ d = 24 ∨ d = 25 ∨ d = 26 ∨ d = 27 ∨ d = 28 ∨ d = 29 ∨ d = 30 ∨ d = 31 ∨ d = 32 ∨ d = 33 ∨ d = 34 ∨ d = 35 ∨ d = 36 ∨ d = 37 ∨ d = 38 ∨ d = 39 ∨ d = 40 ∨ d = 41 ∨ d = 42 ∨ d = 43 ∨ d = 44 ∨ d = 45 ∨ d = 46 ∨ d = 47 ∨ d = 48 ∨ d = 49 ∨ d = 50 ∨ d = 51 ∨ d = 52 ∨ d = 53 ∨ d = 54 ∨ d = 55 ∨ d = 56 ∨ d = 57 ∨ d = 58 ∨ d = 59 ∨ d = 60 ∨ d = 61 ∨ d = 62 ∨ d = 63) with rfl | rfl | rfl | rfl | rfl | rfl | rfl | rfl | rfl | rfl | rfl | rfl | rfl | rfl | rfl | rfl | rfl | rfl | rfl | rfl | rfl | rfl | rfl | rfl | rfl | rfl | rfl | rfl | rfl | rfl | rfl | rfl | rfl | rfl | rfl | rfl | rfl | rfl | rfl | rfl | rfl | rfl | rfl | rfl | rfl | rfl | rfl | rfl | rfl | rfl | rfl | rfl | rfl | rfl | rfl | rfl | rfl | rfl | rfl | rfl | rfl | rfl | rfl | rfl
  all_goals exact fun w => by kernel_rfl

def b64E : List Nat → List Nat
  | a :: b :: c :: r => sgC (a / 4) :: sgC (a % 4 * 16 + b / 16) :: sgC (b % 16 * 4 + c / 64) :: sgC (c % 64) :: b64E r
  | [a, b] => [sgC (a / 4), sgC (a % 4 * 16 + b / 16), sgC (b % 16 * 4), 61]
  | [a] => [sgC (a / 4), sgC (a % 4 * 16), 61, 61]
  | [] => []

theorem or_add (k : IntKind) (x y : Nat) (m : Nat) (h : y < 2 ^ m) (hm : 2 ^ m ∣ x) : x ||| y = x + y := by
  obtain ⟨q, rfl⟩ := hm
  rw [Nat.mul_comm, ← Nat.shiftLeft_eq, Nat.shiftLeft_add_eq_or_of_lt h]

theorem or_u8 (x y : Nat) (m : Nat) (h : y < 2 ^ m) (hm : 2 ^ m ∣ x) (hx : x < 256) (hy : y < 256) (hs : x + y < 256) : bits .or .u8 (x : Int) (y : Int) = ((x + y : Nat) : Int) := by
  have key : (BitVec.ofInt 8 (x : Int) ||| BitVec.ofInt 8 (y : Int)).toNat = x + y := by
    rw [BitVec.toNat_or, BitVec.ofInt_natCast, BitVec.ofInt_natCast, BitVec.toNat_ofNat, BitVec.toNat_ofNat, Nat.mod_eq_of_lt (by omega), Nat.mod_eq_of_lt (by omega), or_add .u8 x y m h hm]
  show IntKind.u8.wrap ((BitVec.ofInt 8 (x : Int) ||| BitVec.ofInt 8 (y : Int)).toNat : Nat) = _
  rw [key, IntKind.wrap_u8]
  omega

theorem By.drop3 {w : World} {p off c n : Nat} {bs : List Nat} (h : By w (.slice (some ⟨p, off, none⟩) n c) bs) (h3 : 3 ≤ n) : By w (.slice (if c = 3 then some ⟨p, off, none⟩ else some ⟨p, off + 3, none⟩) (n - 3) (c - 3)) (bs.drop 3) := by
  rcases h.2 with ⟨_, _, e, _⟩ | ⟨b, o, c', e, h1, h2, h4, h5⟩
  · cases e
    omega
  · cases e
    refine ⟨fun b hb => h.1 b (List.mem_of_mem_drop hb), .inr ?_⟩
    by_cases hc : c = 3
    · rw [if_pos hc]
      refine ⟨p, off, c - 3, by rw [List.length_drop], by rw [List.length_drop]; omega, by unfold maxLen at *; omega, h4, fun j hj => ?_⟩
      rw [List.length_drop] at hj
      omega
    · rw [if_neg hc]
      refine ⟨p, off + 3, c - 3, by rw [List.length_drop], by rw [List.length_drop]; omega, by unfold maxLen at *; omega, h4, fun j hj => ?_⟩
      rw [List.length_drop] at hj
      rw [show off + 3 + j = off + (j + 3) by omega, h5 (j + 3) (by omega)]
      simp [List.getD_eq_getElem?_getD, List.getElem?_drop, Nat.add_comm]

def lenOf : Value → Nat
  | .slice _ n _ => n
  | _ => 0

/-- The numbers of a group of three bytes. -/
theorem b64_nums (a b d : Nat) (ha : a ≤ 255) (hb : b ≤ 255) (hd : d ≤ 255) : ∃ a1 ar s1 b1 t1 br s2 d1 t2 dr : Nat,
    (a : Int) / 4 = (a1 : Int) ∧ bits .and .u8 (a : Int) 3 = (ar : Int) ∧ (ar : Int) * 16 = (s1 : Int) ∧ IntKind.u8.wrap (s1 : Int) = (s1 : Int) ∧ (b : Int) / 16 = (b1 : Int) ∧ bits .or .u8 (s1 : Int) (b1 : Int) = (t1 : Int) ∧
    bits .and .u8 (b : Int) 15 = (br : Int) ∧ (br : Int) * 4 = (s2 : Int) ∧ IntKind.u8.wrap (s2 : Int) = (s2 : Int) ∧ (d : Int) / 64 = (d1 : Int) ∧ bits .or .u8 (s2 : Int) (d1 : Int) = (t2 : Int) ∧ bits .and .u8 (d : Int) 63 = (dr : Int) ∧
    (a1 = a / 4 ∧ t1 = a % 4 * 16 + b / 16 ∧ t2 = b % 16 * 4 + d / 64 ∧ dr = d % 64 ∧ s1 = a % 4 * 16 ∧ s2 = b % 16 * 4) ∧ a1 < 64 ∧ t1 < 64 ∧ t2 < 64 ∧ dr < 64 ∧ s1 < 64 ∧ s2 < 64 := by
  refine ⟨a / 4, a % 4, a % 4 * 16, b / 16, a % 4 * 16 + b / 16, b % 16, b % 16 * 4, d / 64, b % 16 * 4 + d / 64, d % 64, by omega, and3b a (by omega), by omega, ?_, by omega, ?_, and15b b (by omega), by omega, ?_, by omega, ?_, and63b d (by omega), ⟨rfl, rfl, rfl, rfl, rfl, rfl⟩, by omega, by omega, by omega, by omega, by omega, by omega⟩
  · rw [IntKind.wrap_u8]; omega
  · exact or_u8 _ _ 4 (by omega) ⟨a % 4, by omega⟩ (by omega) (by omega) (by omega)
  · rw [IntKind.wrap_u8]; omega
  · exact or_u8 _ _ 2 (by omega) ⟨b % 16, by omega⟩ (by omega) (by omega) (by omega)

theorem r_cons3 {r : List Nat} (h : 3 ≤ r.length) : r = r.getD 0 0 :: r.getD 1 0 :: r.getD 2 0 :: r.drop 3 := by
  match r, h with
  | a :: b :: c :: r, _ => rfl

theorem cell_al {w : World} {a : Addr} {v : Value} (h : w.cell? a = some v) (o : Obj) : (w.alloc o).cell? a = some v := (World.cell?_alloc_lt w _ _ (block_lt_of_cell h)).trans h


end Go.Proofs.Ythofhljbipkiaaa.Co
