/- What the fingerprints tell apart. -/
import Derived.Test.YtidpkkekoldkgaaFpSame
namespace Go.Proofs.Ytidpkkekoldkgaa.Fp
open Go.RowKit
set_option linter.unusedVariables false

/-- A number of 64 bits. -/
def U64 (x : Int) : Prop := 0 ≤ x ∧ x ≤ 18446744073709551615

theorem u64_nat {x : Int} (h : U64 x) : ∃ X : Nat, x = (X : Int) ∧ X < 2 ^ 64 := ⟨x.toNat, by have := h.1; omega, by have := h.2; have := h.1; omega⟩
theorem u64_wrap_in (n : Int) : U64 (IntKind.u64.wrap n) := by
  unfold U64
  rw [u64_wrap]
  omega
theorem u64_mix {x : Int} (h : U64 x) : U64 (mixI x) := mixI_bd x h.1 h.2
theorem u64_xor (a b : Int) : U64 (bits .xor .u64 a b) := bits_bd .xor a b
theorem mix_inj {x y : Int} (hx : U64 x) (hy : U64 y) (h : mixI x = mixI y) : x = y := (mixI_inj hx.1 hx.2 hy.1 hy.2).1 h

theorem xor_inj_r {a b c : Int} (ha : U64 a) (hb : U64 b) (hc : U64 c) (h : bits .xor .u64 a b = bits .xor .u64 a c) : b = c := by
  obtain ⟨A, rfl, hA⟩ := u64_nat ha
  obtain ⟨B, rfl, hB⟩ := u64_nat hb
  obtain ⟨C, rfl, hC⟩ := u64_nat hc
  rw [xor_bv _ _ hA hB, xor_bv _ _ hA hC] at h
  have h1 : A ^^^ B = A ^^^ C := by omega
  have h2 : A ^^^ (A ^^^ B) = A ^^^ (A ^^^ C) := by rw [h1]
  rw [← Nat.xor_assoc, ← Nat.xor_assoc, Nat.xor_self, Nat.zero_xor, Nat.zero_xor] at h2
  rw [h2]

theorem xor_inj_l {a b c : Int} (ha : U64 a) (hb : U64 b) (hc : U64 c) (h : bits .xor .u64 b a = bits .xor .u64 c a) : b = c := by
  obtain ⟨A, rfl, hA⟩ := u64_nat ha
  obtain ⟨B, rfl, hB⟩ := u64_nat hb
  obtain ⟨C, rfl, hC⟩ := u64_nat hc
  rw [xor_bv _ _ hB hA, xor_bv _ _ hC hA] at h
  have h1 : B ^^^ A = C ^^^ A := by omega
  have h2 : B ^^^ A ^^^ A = C ^^^ A ^^^ A := by rw [h1]
  rw [Nat.xor_assoc, Nat.xor_assoc, Nat.xor_self, Nat.xor_zero, Nat.xor_zero] at h2
  rw [h2]

theorem add_inj {a b c : Int} (ha : U64 a) (hb : U64 b) (h : IntKind.u64.wrap (a + c) = IntKind.u64.wrap (b + c)) : a = b := by
  rw [u64_wrap, u64_wrap] at h
  have h1 := ha.1
  have h2 := ha.2
  have h3 := hb.1
  have h4 := hb.2
  omega

theorem or_bv (a b : Nat) (ha : a < 2 ^ 64) (hb : b < 2 ^ 64) : bits .or .u64 (a : Int) (b : Int) = ((a ||| b : Nat) : Int) := by
  show IntKind.u64.wrap ((BitVec.ofInt 64 (a : Int) ||| BitVec.ofInt 64 (b : Int)).toNat : Nat) = _
  rw [BitVec.ofInt_natCast, BitVec.ofInt_natCast, BitVec.toNat_or, BitVec.toNat_ofNat, BitVec.toNat_ofNat, Nat.mod_eq_of_lt ha, Nat.mod_eq_of_lt hb, u64_wrap]
  have := Nat.or_lt_two_pow ha hb
  omega

/-- The number of the first k bytes, the lowest first. -/
def vN (bs : List Nat) : Nat → Nat
  | 0 => 0
  | k + 1 => 2 ^ (8 * k) * bs.getD k 0 + vN bs k

theorem vN_lt (bs : List Nat) (hb : ∀ i, bs.getD i 0 ≤ 255) : ∀ k, vN bs k < 2 ^ (8 * k)
  | 0 => by simp [vN]
  | k + 1 => by
    have ih := vN_lt bs hb k
    have h := hb k
    have e : 2 ^ (8 * (k + 1)) = 2 ^ (8 * k) * 256 := by rw [Nat.mul_add, Nat.pow_add]
    have h2 : 2 ^ (8 * k) * bs.getD k 0 ≤ 2 ^ (8 * k) * 255 := Nat.mul_le_mul_left _ h
    simp only [vN]
    rw [e]
    generalize 2 ^ (8 * k) = P at *
    generalize P * bs.getD k 0 = Q at *
    omega

theorem wTo_vN (bs : List Nat) (hb : ∀ i, bs.getD i 0 ≤ 255) : ∀ k, k ≤ 8 → wTo bs k = (vN bs k : Int)
  | 0, _ => rfl
  | k + 1, hk => by
    have ih := wTo_vN bs hb k (by omega)
    have hl := vN_lt bs hb k
    have hl1 := vN_lt bs hb (k + 1)
    have hp : 2 ^ (8 * (k + 1)) ≤ 2 ^ 64 := Nat.pow_le_pow_right (by omega) (by omega)
    have hp0 : 2 ^ (8 * k) ≤ 2 ^ 64 := Nat.pow_le_pow_right (by omega) (by omega)
    have e : wTo bs (k + 1) = bits .or .u64 (wTo bs k) (IntKind.u64.wrap ((bs.getD k 0 : Nat) * 2 ^ (8 * k))) := rfl
    simp only [vN] at hl1 ⊢
    have hQ : 2 ^ (8 * k) * bs.getD k 0 < 2 ^ 64 := by omega
    have e2 : IntKind.u64.wrap ((bs.getD k 0 : Nat) * 2 ^ (8 * k)) = ((2 ^ (8 * k) * bs.getD k 0 : Nat) : Int) := by
      have e3 : ((bs.getD k 0 : Nat) : Int) * 2 ^ (8 * k) = ((2 ^ (8 * k) * bs.getD k 0 : Nat) : Int) := by
        rw [Int.natCast_mul, Int.mul_comm]
        simp
      rw [e3, u64_wrap]
      generalize 2 ^ (8 * k) * bs.getD k 0 = Q at *
      omega
    rw [e, ih, e2, or_bv _ _ (by omega) hQ, Nat.or_comm, ← Nat.two_pow_add_eq_or_of_lt hl]

theorem vN_inj (xs ys : List Nat) (hx : ∀ i, xs.getD i 0 ≤ 255) (hy : ∀ i, ys.getD i 0 ≤ 255) : ∀ k, vN xs k = vN ys k → ∀ i, i < k → xs.getD i 0 = ys.getD i 0
  | 0, _ => fun i hi => absurd hi (by omega)
  | k + 1, h => by
    have l1 := vN_lt xs hx k
    have l2 := vN_lt ys hy k
    simp only [vN] at h
    have hd : ∀ (bs : List Nat), vN bs k < 2 ^ (8 * k) → (2 ^ (8 * k) * bs.getD k 0 + vN bs k) / 2 ^ (8 * k) = bs.getD k 0 := by
      intro bs hl
      rw [Nat.mul_add_div (Nat.two_pow_pos _), Nat.div_eq_of_lt hl, Nat.add_zero]
    have e1 := hd xs l1
    rw [h, hd ys l2] at e1
    rw [e1] at h
    have e2 : vN xs k = vN ys k := by omega
    have ih := vN_inj xs ys hx hy k e2
    intro i hi
    by_cases hik : i = k
    · rw [hik, e1]
    · exact ih i (by omega)

theorem getD_bd {bs : List Nat} (h : ∀ b ∈ bs, b ≤ 255) (i : Nat) : bs.getD i 0 ≤ 255 := by
  rw [List.getD_eq_getElem?_getD]
  by_cases hi : i < bs.length
  · rw [List.getElem?_eq_getElem hi]
    exact h _ (List.getElem_mem hi)
  · rw [List.getElem?_eq_none (by omega)]
    simp

theorem u64_wTo (bs : List Nat) (hb : ∀ i, bs.getD i 0 ≤ 255) (k : Nat) (hk : k ≤ 8) : U64 (wTo bs k) := by
  rw [wTo_vN bs hb k hk]
  have := vN_lt bs hb k
  have hp : 2 ^ (8 * k) ≤ 2 ^ 64 := Nat.pow_le_pow_right (by omega) (by omega)
  exact ⟨Int.natCast_nonneg _, by omega⟩

theorem u64_len (n : Nat) (h : n ≤ 65536) : U64 (n : Int) := ⟨Int.natCast_nonneg _, by omega⟩

theorem u64_h0 (key kind : Int) (len : Nat) : U64 (h0I key kind len) := u64_mix (u64_xor _ _)

theorem h0_inj_key {k1 k2 kind : Int} (h1 : U64 k1) (h2 : U64 k2) {len : Nat} (hl : len ≤ 65536) (h : h0I k1 kind len = h0I k2 kind len) : k1 = k2 := by
  unfold h0I at h
  have a := mix_inj (u64_xor _ _) (u64_xor _ _) h
  have b := xor_inj_l (u64_len len hl) (u64_mix (u64_xor _ _)) (u64_mix (u64_xor _ _)) a
  have c := mix_inj (u64_xor _ _) (u64_xor _ _) b
  have d := xor_inj_l (u64_wrap_in _) (u64_mix h1) (u64_mix h2) c
  exact mix_inj h1 h2 d

theorem h0_inj_kind {key k1 k2 : Int} (hk : U64 key) {len : Nat} (hl : len ≤ 65536) (h : h0I key k1 len = h0I key k2 len) : IntKind.u64.wrap k1 = IntKind.u64.wrap k2 := by
  unfold h0I at h
  have a := mix_inj (u64_xor _ _) (u64_xor _ _) h
  have b := xor_inj_l (u64_len len hl) (u64_mix (u64_xor _ _)) (u64_mix (u64_xor _ _)) a
  have c := mix_inj (u64_xor _ _) (u64_xor _ _) b
  exact xor_inj_r (u64_mix hk) (u64_wrap_in _) (u64_wrap_in _) c

theorem step_inj {bs : List Nat} (hb : ∀ b ∈ bs, b ≤ 255) {h1 h2 : Int} (u1 : U64 h1) (u2 : U64 h2) (j : Nat) (h : stepI bs h1 j = stepI bs h2 j) : h1 = h2 := by
  unfold stepI at h
  have hc : ∀ i, (chunkB bs j).getD i 0 ≤ 255 := getD_bd fun x hx => hb x (List.mem_of_mem_drop (List.mem_of_mem_take hx))
  have a := add_inj (u64_mix (u64_xor _ _)) (u64_mix (u64_xor _ _)) h
  have b := mix_inj (u64_xor _ _) (u64_xor _ _) a
  exact xor_inj_l (u64_wTo _ hc _ (Nat.min_le_left _ _)) u1 u2 b

theorem fold_inj {bs : List Nat} (hb : ∀ b ∈ bs, b ≤ 255) : ∀ (l : List Nat) {h1 h2 : Int}, U64 h1 → U64 h2 → l.foldl (stepI bs) h1 = l.foldl (stepI bs) h2 → h1 = h2
  | [], _, _, _, _, h => h
  | j :: l, h1, h2, u1, u2, h => by
    have ih := fold_inj hb l (h1 := stepI bs h1 j) (h2 := stepI bs h2 j) (u64_wrap_in _) (u64_wrap_in _) h
    exact step_inj hb u1 u2 j ih

/-- Two keys: two fingerprints. -/
theorem of_key {bs : List Nat} (hb : ∀ b ∈ bs, b ≤ 255) (hl : bs.length ≤ 65536) {k1 k2 kind : Int} (h1 : U64 k1) (h2 : U64 k2) : ofI k1 kind bs = ofI k2 kind bs ↔ k1 = k2 := by
  constructor
  · intro h
    unfold ofI hOf at h
    rw [if_neg (by omega), if_neg (by omega)] at h
    exact h0_inj_key h1 h2 hl (fold_inj hb _ (u64_h0 _ _ _) (u64_h0 _ _ _) h)
  · rintro rfl
    rfl

/-- Two kinds: two fingerprints. -/
theorem of_kind {bs : List Nat} (hb : ∀ b ∈ bs, b ≤ 255) (hl : bs.length ≤ 65536) {key k1 k2 : Int} (hk : U64 key) (h : ofI key k1 bs = ofI key k2 bs) : IntKind.u64.wrap k1 = IntKind.u64.wrap k2 := by
  unfold ofI hOf at h
  rw [if_neg (by omega), if_neg (by omega)] at h
  exact h0_inj_kind hk hl (fold_inj hb _ (u64_h0 _ _ _) (u64_h0 _ _ _) h)

/-- One to eight bytes: two texts of one length have two fingerprints. -/
theorem of_short {xs ys : List Nat} (hx : ∀ b ∈ xs, b ≤ 255) (hy : ∀ b ∈ ys, b ≤ 255) {n : Nat} (h1 : 1 ≤ n) (h8 : n ≤ 8) (lx : xs.length = n) (ly : ys.length = n) {key kind : Int} : ofI key kind xs = ofI key kind ys ↔ xs = ys := by
  constructor
  · intro h
    unfold ofI hOf at h
    rw [if_neg (by omega), if_neg (by omega)] at h
    have hn : numC n = 1 := by unfold numC; omega
    rw [lx, ly, hn] at h
    have e : List.range 1 = [0] := rfl
    rw [e, List.foldl_cons, List.foldl_nil, List.foldl_cons, List.foldl_nil] at h
    unfold stepI at h
    have cx : chunkB xs 0 = xs := by
      unfold chunkB
      rw [Nat.mul_zero, List.drop_zero]
      exact List.take_of_length_le (by omega)
    have cy : chunkB ys 0 = ys := by
      unfold chunkB
      rw [Nat.mul_zero, List.drop_zero]
      exact List.take_of_length_le (by omega)
    have m : min 8 (n - 8 * 0) = n := by omega
    rw [lx, ly, cx, cy, m] at h
    have a := add_inj (u64_mix (u64_xor _ _)) (u64_mix (u64_xor _ _)) h
    have b := mix_inj (u64_xor _ _) (u64_xor _ _) a
    have c := xor_inj_r (u64_h0 _ _ _) (u64_wTo xs (getD_bd hx) n h8) (u64_wTo ys (getD_bd hy) n h8) b
    rw [wTo_vN xs (getD_bd hx) n h8, wTo_vN ys (getD_bd hy) n h8] at c
    have d := vN_inj xs ys (getD_bd hx) (getD_bd hy) n (by omega)
    apply List.ext_getElem (by omega)
    intro i hi hj
    have := d i (by omega)
    rw [List.getD_eq_getElem?_getD, List.getD_eq_getElem?_getD, List.getElem?_eq_getElem hi, List.getElem?_eq_getElem hj] at this
    simpa using this
  · rintro rfl
    rfl

/-- A kind and the kind beside it are two. -/
theorem kind_ne (kind : Int) : IntKind.u64.wrap (bits .xor .i64 kind 1) ≠ IntKind.u64.wrap kind := by
  have e : bits .xor .i64 kind 1 = IntKind.i64.wrap ((BitVec.ofInt 64 kind ^^^ BitVec.ofInt 64 1).toNat : Nat) := rfl
  have hw : ∀ n : Int, IntKind.u64.wrap (IntKind.i64.wrap n) = IntKind.u64.wrap n := by
    intro n
    rw [u64_wrap, u64_wrap]
    have : IntKind.i64.wrap n = (n + 9223372036854775808) % 18446744073709551616 - 9223372036854775808 := by
      simp [IntKind.wrap, IntKind.bits, IntKind.signed]
      split <;> omega
    rw [this]
    omega
  intro h
  rw [e, hw, u64_wrap, u64_wrap] at h
  have hk : kind % 18446744073709551616 = ((BitVec.ofInt 64 kind).toNat : Int) := by
    rw [BitVec.toNat_ofInt]
    omega
  rw [hk] at h
  have hl := (BitVec.ofInt 64 kind ^^^ BitVec.ofInt 64 1).isLt
  have h2 : (BitVec.ofInt 64 kind ^^^ BitVec.ofInt 64 1).toNat = (BitVec.ofInt 64 kind).toNat := by omega
  have h3 : BitVec.ofInt 64 kind ^^^ BitVec.ofInt 64 1 = BitVec.ofInt 64 kind := BitVec.eq_of_toNat_eq h2
  have h4 : BitVec.ofInt 64 kind ^^^ (BitVec.ofInt 64 kind ^^^ BitVec.ofInt 64 1) = BitVec.ofInt 64 kind ^^^ BitVec.ofInt 64 kind := by rw [h3]
  rw [← BitVec.xor_assoc, BitVec.xor_self, BitVec.zero_xor] at h4
  exact absurd h4 (by decide)
end Go.Proofs.Ytidpkkekoldkgaa.Fp
