import Derived.Test.YthofhljbipkiaaaDoorCkK
import Derived.ProofKit
import Derived.OpenShut
import Derived.ShutString
import Derived.ChangeOld
namespace Go.Proofs.YthofhljbipkiaaaDoor.Ck
open Go.RowKit
open Go.Proofs.YthofhljbipkiaaaDoor.Tp
set_option linter.unusedVariables false

theorem own : ownKnob Tryd.prog.godebug = none := by kernel_rfl
theorem laidOut : laidOutB Tryd.prog = true := by kernel_rfl

/-- A slice of integers that came in: nil, or a row of 'cap' cells. -/
def IsRow (k : IntKind) (w : World) (a : Option Addr) (len cap : Nat) (zs : List Int) : Prop :=
  (a = none ∧ len = 0 ∧ cap = 0 ∧ zs = []) ∨
  ∃ x, a = some x ∧ len ≤ cap ∧ cap ≤ maxLen ∧ zs.length = cap ∧ (∀ i, i < zs.length → w.cell? (x.add i) = some (.int k (zs.getD i 0))) ∧ ∀ n ∈ zs, (Lit.int k n).wf = true

theorem IsRow.at_ {k : IntKind} {w : World} {a : Option Addr} {len cap : Nat} {zs : List Int} (h : IsRow k w a len cap zs) :
    len ≤ maxLen ∧ (0 < len → ∃ b off, a = some ⟨b, off, none⟩ ∧ b < w.heap.size ∧ ∀ j, j < len → w.cell? ⟨b, off + j, none⟩ = some (.int k (zs.getD j 0))) := by
  rcases h with ⟨rfl, rfl, rfl, rfl⟩ | ⟨x, rfl, hl, hm, hz, hc, hw⟩
  · exact ⟨by unfold maxLen; omega, fun h => absurd h (by omega)⟩
  · refine ⟨by omega, fun h0 => ?_⟩
    obtain ⟨b, off, spot⟩ := x
    have hc0 := hc 0 (by omega)
    have hspot : spot = none := by simpa [Addr.add] using World.cell?_spot hc0
    subst hspot
    have hlt : b < w.heap.size := by simpa [Addr.add] using block_lt_of_cell hc0
    refine ⟨b, off, rfl, hlt, fun j hj => ?_⟩
    have hj := hc j (by omega)
    have e : (⟨b, off, none⟩ : Addr).add j = ⟨b, off + j, none⟩ := by unfold Addr.add; split <;> simp_all
    rwa [e] at hj

theorem tape_new {w : World} {a : Option Addr} {len cap : Nat} {zs : List Int} (h : IsRow .i64 w a len cap zs) : TapeOk (w.alloc (.cells #[.slice a len cap, .int .i64 0] 25)) w.heap.size := by
  obtain ⟨hm, hc⟩ := h.at_
  unfold maxLen at hm
  refine ⟨a, len, cap, fun j => zs.getD j 0, 0, heap_alloc_new _ _, hm, by omega, fun h0 => ?_⟩
  obtain ⟨b, off, e, hlt, hcell⟩ := hc h0
  exact ⟨b, off, e, hlt, fun j hj => (World.cell?_alloc_lt w _ _ hlt).trans (hcell j hj)⟩

/-! ### Low bits -/

theorem and_mask (n : Int) (k : Nat) (hk : k ≤ 16) : bits .and .i64 n ((2 ^ k - 1 : Nat) : Int) = n % ((2 ^ k : Nat) : Int) := by
  have hlt : 2 ^ k ≤ 2 ^ 16 := Nat.pow_le_pow_right (by decide) hk
  have hpos : 0 < 2 ^ k := Nat.two_pow_pos k
  have hd : (2 ^ k) ∣ 2 ^ 64 := Nat.pow_dvd_pow 2 (by omega)
  have hm : (BitVec.ofInt 64 ((2 ^ k - 1 : Nat) : Int)).toNat = 2 ^ k - 1 := by
    rw [BitVec.ofInt_natCast, BitVec.toNat_ofNat, Nat.mod_eq_of_lt (by omega)]
  have key : (BitVec.ofInt 64 n &&& BitVec.ofInt 64 ((2 ^ k - 1 : Nat) : Int)).toNat = (n % ((2 ^ 64 : Nat) : Int)).toNat % 2 ^ k := by
    rw [BitVec.toNat_and, BitVec.toNat_ofInt, hm, Nat.and_two_pow_sub_one_eq_mod]
  show IntKind.i64.wrap ((BitVec.ofInt 64 n &&& BitVec.ofInt 64 ((2 ^ k - 1 : Nat) : Int)).toNat : Nat) = n % ((2 ^ k : Nat) : Int)
  rw [key, IntKind.wrap_i64]
  have h0 : 0 ≤ n % ((2 ^ 64 : Nat) : Int) := Int.emod_nonneg _ (by decide)
  have h1 : (((n % ((2 ^ 64 : Nat) : Int)).toNat % 2 ^ k : Nat) : Int) = n % ((2 ^ k : Nat) : Int) := by
    rw [Int.natCast_emod, Int.toNat_of_nonneg h0]
    exact Int.emod_emod_of_dvd n (Int.natCast_dvd_natCast.2 hd)
  have h2 : n % ((2 ^ k : Nat) : Int) < ((2 ^ k : Nat) : Int) := Int.emod_lt_of_pos _ (by omega)
  have h3 : 0 ≤ n % ((2 ^ k : Nat) : Int) := Int.emod_nonneg _ (by omega)
  rw [h1]
  omega

theorem and3 (n : Int) : bits .and .i64 n 3 = n % 4 := and_mask n 2 (by decide)
theorem and7 (n : Int) : bits .and .i64 n 7 = n % 8 := and_mask n 3 (by decide)
theorem and15i (n : Int) : bits .and .i64 n 15 = n % 16 := and_mask n 4 (by decide)
theorem and255 (n : Int) : bits .and .i64 n 255 = n % 256 := and_mask n 8 (by decide)

/-! ### What is completed holds -/

theorem getD_app_lt {a b : List Nat} {j : Nat} (h : j < a.length) : (a ++ b).getD j 0 = a.getD j 0 := by
  rw [List.getD_eq_getElem?_getD, List.getD_eq_getElem?_getD, List.getElem?_append_left h]

theorem getD_app_ge {a b : List Nat} {j : Nat} : (a ++ b).getD (a.length + j) 0 = b.getD j 0 := by
  rw [List.getD_eq_getElem?_getD, List.getD_eq_getElem?_getD, List.getElem?_append_right (by omega), Nat.add_sub_cancel_left]

theorem remTo_app (a b : List Nat) (k : Nat) (hk : k ≤ a.length) : remTo (a ++ b) k = remTo a k := by
  induction k with
  | zero => rfl
  | succ k ih =>
    show remS ((a ++ b).getD k 0) (remTo (a ++ b) k) = remS (a.getD k 0) (remTo a k)
    rw [ih (by omega), getD_app_lt (by omega)]

theorem remTo_two (a : List Nat) (x y : Nat) : remTo (a ++ [x, y]) (a.length + 2) = remS y (remS x (remTo a a.length)) := by
  show remS ((a ++ [x, y]).getD (a.length + 1) 0) (remS ((a ++ [x, y]).getD (a.length + 0) 0) (remTo (a ++ [x, y]) a.length)) = _
  rw [getD_app_ge, getD_app_ge, remTo_app _ _ _ (Nat.le_refl _)]
  rfl

theorem remS_dig {d r : Nat} (hd : d ≤ 9) : remS (48 + d) r = (r * 10 + d) % 97 := by
  unfold remS
  rw [show isD (48 + d) = true by simp [isD]; omega, if_pos rfl, Nat.add_sub_cancel_left]

theorem rem_done (bs : List Nat) : remTo (bs ++ [48 + mod2 bs / 10, 48 + mod2 bs % 10]) (bs.length + 2) = 1 := by
  have hm := mod2_lt bs
  have h0 : rem00 bs = (remTo bs bs.length * 100) % 97 := by
    unfold rem00
    rw [remTo_two, show remS 48 (remTo bs bs.length) = (remTo bs bs.length * 10 + 0) % 97 from remS_dig (d := 0) (by omega), show ∀ r, remS 48 r = (r * 10 + 0) % 97 from fun r => remS_dig (d := 0) (by omega)]
    omega
  have h1 : rem00 bs < 97 := rem00_lt bs
  rw [remTo_two, remS_dig (by omega), remS_dig (by omega)]
  unfold mod2 at hm ⊢
  omega

theorem drop_app (a b : List Nat) : (a ++ b).drop a.length = b := by simp
theorem take_app (a b : List Nat) : (a ++ b).take a.length = a := by simp

theorem mod97_done {bs : List Nat} (h : bs.all isDC = true) (h1 : 1 ≤ bs.length) : mod97 (bs ++ [48 + mod2 bs / 10, 48 + mod2 bs % 10]) = true := by
  have hm := mod2_lt bs
  have e1 : isD (48 + mod2 bs / 10) = true := by simp [isD]; omega
  have e2 : isD (48 + mod2 bs % 10) = true := by simp [isD]; omega
  have hr := rem_done bs
  unfold mod97
  rw [List.length_append, show [48 + mod2 bs / 10, 48 + mod2 bs % 10].length = 2 from rfl, hr, Nat.add_sub_cancel, drop_app, List.all_append, h]
  simp [isDC, e1, e2]
  omega

theorem holds3_done {bs : List Nat} (h1 : 1 ≤ bs.length) : holds3 (bs ++ hexL (crc bs) 8) = true := by
  have hl : (hexL (crc bs) 8).length = 8 := by simp [hexL]
  unfold holds3
  rw [List.length_append, hl, Nat.add_sub_cancel, drop_app, take_app]
  simp
  omega

theorem letTo_app (a b : List Nat) (k : Nat) (hk : k ≤ a.length) : letTo (a ++ b) k = letTo a k := by
  induction k with
  | zero => rfl
  | succ k ih => simp only [letTo]; rw [ih (by omega), getD_app_lt (by omega)]

theorem holds4_snoc {bs : List Nat} {b : Nat} (h1 : 1 ≤ bs.length) : holds4 (bs ++ [b]) = decide (b = 65 + letTo bs bs.length) := by
  unfold holds4
  rw [List.length_append, show [b].length = 1 from rfl, Nat.add_sub_cancel, take_app, getD_snoc_eq]
  simp
  omega

theorem holds4_done {bs : List Nat} (h1 : 1 ≤ bs.length) : holds4 (bs ++ [65 + letTo bs bs.length]) = true := by
  rw [holds4_snoc h1]
  simp

theorem holds_done {c : Int} {bs : List Nat} (h0 : 0 ≤ c) (h4 : c ≤ 4) (hc : compl c bs = true) (hz : c ≠ 0) : holds c (bs ++ tailC c bs) = true := by
  have hl : 1 ≤ bs.length := by
    unfold compl at hc
    rw [if_neg hz] at hc
    split at hc
    · simp at hc; omega
    · split at hc
      · simp at hc; omega
      · simp at hc; omega
  rcases (by omega : c = 1 ∨ c = 2 ∨ c = 3 ∨ c = 4) with rfl | rfl | rfl | rfl
  · have hd : bs.all isD = true := by
      rw [show compl 1 bs = (decide (1 ≤ bs.length) && bs.all isD) from rfl, Bool.and_eq_true] at hc
      exact hc.2
    show luhn (bs ++ [48 + luD bs]) = true
    rw [luhn_snoc (luD_le bs) hd hl]
    simp
  · have hd : bs.all isDC = true := by
      rw [show compl 2 bs = (decide (1 ≤ bs.length) && bs.all isDC) from rfl, Bool.and_eq_true] at hc
      exact hc.2
    exact mod97_done hd hl
  · exact holds3_done hl
  · exact holds4_done hl

theorem tail_le {c : Int} {bs : List Nat} : ∀ b ∈ tailC c bs, b ≤ 255 := by
  intro b hb
  unfold tailC at hb
  have h1 := luD_le bs
  have h2 := mod2_lt bs
  have h3 := letTo_lt bs bs.length
  split at hb
  · simp at hb; omega
  · split at hb
    · simp at hb; omega
    · split at hb
      · exact hexL_le _ _ b hb
      · simp at hb; omega

theorem tail_len {c : Int} {bs : List Nat} : 1 ≤ (tailC c bs).length ∧ (tailC c bs).length ≤ 8 := by
  unfold tailC
  split
  · simp
  · split
    · simp
    · split
      · simp [hexL]
      · simp

/-- What Complete hands back where it hands back OK. -/
theorem complete_ok {c : Int} {s : ByteArray} (h0 : 0 ≤ c) (h4 : c ≤ 4) (hc : compl c (nums s) = true) :
    ∃ X : ByteArray, cplV c s = .tuple #[.string X, .int .i64 0] ∧ s.size ≤ X.size ∧ X.size ≤ s.size + 8 ∧ X.extract 0 s.size = s ∧ holds c (nums X) = true ∧ (c ≠ 0 → nums X = nums s ++ tailC c (nums s)) := by
  by_cases hz : c = 0
  · subst hz
    exact ⟨s, rfl, Nat.le_refl _, by omega, by rw [ByteArray.extract_zero_size], rfl, fun h => absurd rfl h⟩
  · have hl := tail_len (c := c) (bs := nums s)
    have hn : nums (s ++ strB (tailC c (nums s))) = nums s ++ tailC c (nums s) := by rw [nums_append, nums_strB tail_le]
    refine ⟨s ++ strB (tailC c (nums s)), cplV_ok ⟨h0, h4⟩ hc hz, by rw [size_dig]; omega, by rw [size_dig]; omega, ?_, by rw [hn]; exact holds_done h0 h4 hc hz, fun _ => hn⟩
    apply ByteArray.ext
    rw [ByteArray.data_extract, ByteArray.data_append]
    apply Array.ext'
    rw [Array.toList_extract, List.extract_eq_take_drop, Array.toList_append]
    rw [show s.size = s.data.toList.length from (Array.length_toList).symm ▸ rfl]
    simp

end Go.Proofs.YthofhljbipkiaaaDoor.Ck
