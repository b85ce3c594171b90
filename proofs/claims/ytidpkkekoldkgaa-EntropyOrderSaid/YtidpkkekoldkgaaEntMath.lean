/- The plain arithmetic of layer 2: the logarithm by squaring, and its laws. -/
namespace Go.Proofs.Ytidpkkekoldkgaa.Ent

def sq (x : Nat) : Nat := x * x / 1073741824
def sx (x : Nat) : Nat := if 2147483648 ≤ sq x then sq x / 2 else sq x
def sy (x y : Nat) : Nat := if 2147483648 ≤ sq x then 2 * y + 1 else 2 * y
def ix : Nat → Nat → Nat
  | 0, x => x
  | k + 1, x => sx (ix k x)
def iy : Nat → Nat → Nat → Nat
  | 0, _, y => y
  | k + 1, x, y => sy (ix k x) (iy k x y)
def x0 (n : Nat) : Nat := n * 2 ^ (30 - Nat.log2 n)
def lg (n : Nat) : Nat := iy 16 (x0 n) (Nat.log2 n)
def lgI (n : Int) : Int := if 1 ≤ n ∧ n ≤ 1073741824 then (lg n.toNat : Int) else 0

def InX (x : Nat) : Prop := 1073741824 ≤ x ∧ x < 2147483648

theorem sq_in {x : Nat} (h : InX x) : 1073741824 ≤ sq x ∧ sq x < 4294967296 := by
  obtain ⟨h1, h2⟩ := h
  unfold sq
  constructor
  · rw [Nat.le_div_iff_mul_le (by omega)]
    exact Nat.mul_le_mul h1 h1
  · rw [Nat.div_lt_iff_lt_mul (by omega)]
    have : x * x ≤ 2147483647 * 2147483647 := Nat.mul_le_mul (by omega) (by omega)
    omega

theorem mul_lt {x : Nat} (h : InX x) : x * x < 4611686018427387904 := by
  have : x * x ≤ 2147483647 * 2147483647 := Nat.mul_le_mul (by have := h.2; omega) (by have := h.2; omega)
  omega

theorem sx_in {x : Nat} (h : InX x) : InX (sx x) := by
  obtain ⟨h1, h2⟩ := sq_in h
  unfold sx InX
  split <;> omega

theorem ix_in {x : Nat} (h : InX x) : ∀ k, InX (ix k x)
  | 0 => h
  | k + 1 => sx_in (ix_in h k)

theorem log2_le {n : Nat} (h0 : 1 ≤ n) (h : n ≤ 1073741824) : Nat.log2 n ≤ 30 := by
  have : Nat.log2 n < 31 := (Nat.log2_lt (by omega)).2 (by omega)
  omega

theorem x0_in {n : Nat} (h0 : 1 ≤ n) (h : n ≤ 1073741824) : InX (x0 n) := by
  have hk := log2_le h0 h
  have h1 : 2 ^ Nat.log2 n ≤ n := Nat.log2_self_le (by omega)
  have h2 : n < 2 ^ (Nat.log2 n + 1) := Nat.lt_log2_self
  have e : 2 ^ Nat.log2 n * 2 ^ (30 - Nat.log2 n) = 1073741824 := by
    rw [← Nat.pow_add, show Nat.log2 n + (30 - Nat.log2 n) = 30 from by omega]
  have hp : 0 < 2 ^ (30 - Nat.log2 n) := Nat.pow_pos (by omega)
  unfold x0 InX
  constructor
  · calc 1073741824 = 2 ^ Nat.log2 n * 2 ^ (30 - Nat.log2 n) := e.symm
      _ ≤ n * 2 ^ (30 - Nat.log2 n) := Nat.mul_le_mul_right _ h1
  · have h3 : n * 2 ^ (30 - Nat.log2 n) < 2 ^ (Nat.log2 n + 1) * 2 ^ (30 - Nat.log2 n) := Nat.mul_lt_mul_of_pos_right h2 hp
    rw [Nat.pow_succ, Nat.mul_assoc, Nat.mul_comm 2, ← Nat.mul_assoc, e] at h3
    omega

theorem iy_lt (x y : Nat) : ∀ k, iy k x y < (y + 1) * 2 ^ k
  | 0 => by simp [iy]
  | k + 1 => by
    have h := iy_lt x y k
    rw [Nat.pow_succ, ← Nat.mul_assoc]
    simp only [iy]
    unfold sy
    split <;> omega

theorem iy_le {x y k : Nat} (hy : y ≤ 30) (hk : k ≤ 16) : iy k x y < 2031616 := by
  have h := iy_lt x y k
  have h1 : (y + 1) * 2 ^ k ≤ 31 * 2 ^ 16 := Nat.mul_le_mul (by omega) (Nat.pow_le_pow_right (by omega) hk)
  omega

theorem lgI_bd (n : Int) : 0 ≤ lgI n ∧ lgI n ≤ 2031615 := by
  unfold lgI
  split
  · rename_i h
    have := iy_le (x := x0 n.toNat) (k := 16) (log2_le (n := n.toNat) (by omega) (by omega)) (by omega)
    unfold lg
    omega
  · omega

/-- The pair never falls. -/
theorem step_mono {x1 x2 y1 y2 : Nat} (h : y1 < y2 ∨ y1 = y2 ∧ x1 ≤ x2) : sy x1 y1 < sy x2 y2 ∨ sy x1 y1 = sy x2 y2 ∧ sx x1 ≤ sx x2 := by
  rcases h with h | ⟨rfl, h⟩
  · left
    unfold sy
    split <;> split <;> omega
  · have hq : sq x1 ≤ sq x2 := by unfold sq; exact Nat.div_le_div_right (Nat.mul_le_mul h h)
    unfold sy sx
    split <;> split <;> omega

theorem it_mono {x1 x2 y1 y2 : Nat} (h : y1 < y2 ∨ y1 = y2 ∧ x1 ≤ x2) : ∀ k, iy k x1 y1 < iy k x2 y2 ∨ iy k x1 y1 = iy k x2 y2 ∧ ix k x1 ≤ ix k x2
  | 0 => h
  | k + 1 => step_mono (it_mono h k)

theorem lg_mono {a b : Nat} (h0 : 1 ≤ a) (h : a ≤ b) : lg a ≤ lg b := by
  have hl : Nat.log2 a ≤ Nat.log2 b := by
    have h1 : 2 ^ Nat.log2 a ≤ a := Nat.log2_self_le (by omega)
    exact (Nat.le_log2 (by omega)).2 (Nat.le_trans h1 h)
  have hs : Nat.log2 a < Nat.log2 b ∨ Nat.log2 a = Nat.log2 b ∧ x0 a ≤ x0 b := by
    rcases Nat.lt_or_eq_of_le hl with h1 | h1
    · exact .inl h1
    · refine .inr ⟨h1, ?_⟩
      unfold x0
      rw [h1]
      exact Nat.mul_le_mul_right _ h
  have := it_mono hs 16
  unfold lg
  omega

theorem iy_succ (x y : Nat) : ∀ k, iy k x (y + 1) = iy k x y + 2 ^ k
  | 0 => rfl
  | k + 1 => by
    have h := iy_succ x y k
    simp only [iy, sy, h, Nat.pow_succ]
    split <;> omega

theorem lg_double {a : Nat} (h0 : 1 ≤ a) (h : a ≤ 536870912) : lg (2 * a) = lg a + 65536 := by
  have e : Nat.log2 (2 * a) = Nat.log2 a + 1 := by rw [Nat.log2_two_mul (by omega)]
  have hk : Nat.log2 a < 30 := (Nat.log2_lt (by omega)).2 (by omega)
  have ex : x0 (2 * a) = x0 a := by
    unfold x0
    rw [e, show 30 - Nat.log2 a = (30 - (Nat.log2 a + 1)) + 1 from by omega, Nat.pow_succ, Nat.mul_comm 2 a, Nat.mul_assoc, Nat.mul_comm 2]
  unfold lg
  rw [ex, e, iy_succ]

theorem ix_one : ∀ k, ix k 1073741824 = 1073741824
  | 0 => rfl
  | k + 1 => by
    show sx (ix k 1073741824) = _
    rw [ix_one k]
    decide

theorem iy_one (y : Nat) : ∀ k, iy k 1073741824 y = y * 2 ^ k
  | 0 => by simp [iy]
  | k + 1 => by
    show sy (ix k 1073741824) (iy k 1073741824 y) = _
    rw [ix_one k, iy_one y k, Nat.pow_succ, ← Nat.mul_assoc]
    have e : ¬ 2147483648 ≤ sq 1073741824 := by decide
    unfold sy
    rw [if_neg e]
    omega

theorem lg_pow {k : Nat} (h : k ≤ 30) : lg (2 ^ k) = k * 65536 := by
  have e : Nat.log2 (2 ^ k) = k := Nat.log2_two_pow
  have ex : x0 (2 ^ k) = 1073741824 := by
    unfold x0
    rw [e, ← Nat.pow_add, show k + (30 - k) = 30 from by omega]
  unfold lg
  rw [ex, e, iy_one]

theorem lgI_of {n : Nat} (h0 : 1 ≤ n) (h : n ≤ 1073741824) : lgI (n : Int) = (lg n : Int) := by
  unfold lgI
  rw [if_pos (by omega), Int.toNat_natCast]

theorem lgI_no {n : Int} (h : n < 1 ∨ 1073741824 < n) : lgI n = 0 := by
  unfold lgI
  rw [if_neg (by omega)]

theorem lg8 : lgI 8 = 196608 := by
  have := lgI_of (n := 2 ^ 3) (by decide) (by decide)
  rw [lg_pow (by decide)] at this
  exact this

/-- One round of the squaring, in the form that a walk asks. -/
structure Round (x s y x' y' : Nat) : Prop where
  lo : (1073741824 : Int) ≤ (s : Int)
  hi : (s : Int) ≤ 4294967295
  m0 : (0 : Int) ≤ (x : Int) * (x : Int)
  m1 : (x : Int) * (x : Int) ≤ 4611686018427387903
  sq : (x : Int) * (x : Int) / 1073741824 = (s : Int)
  yb : (y : Int) ≤ 2031615
  up : (2147483648 : Int) ≤ (s : Int) → x' = s / 2 ∧ y' = 2 * y + 1
  dn : (s : Int) ≤ 2147483647 → x' = s ∧ y' = 2 * y

theorem round_of {x y : Nat} (hin : InX x) (hy : y < 2031616) : Round x (sq x) y (sx x) (sy x y) := by
  have hq := sq_in hin
  have hm := mul_lt hin
  have hi : (x : Int) * (x : Int) = ((x * x : Nat) : Int) := by simp
  refine ⟨by omega, by omega, by rw [hi]; omega, by rw [hi]; omega, by rw [hi]; unfold sq; simp, by omega, fun h => ?_, fun h => ?_⟩
  · unfold sx sy
    rw [if_pos (by omega), if_pos (by omega)]
    exact ⟨rfl, rfl⟩
  · unfold sx sy
    rw [if_neg (by omega), if_neg (by omega)]
    exact ⟨rfl, rfl⟩

theorem lg_seq {m : Nat} (h0 : 1 ≤ m) (h1 : m ≤ 1073741824) :
    ∃ fx fs fy : Nat → Nat, fx 0 = x0 m ∧ fy 0 = Nat.log2 m ∧ lgI (m : Int) = (fy 16 : Int) ∧ ∀ k, k < 16 → Round (fx k) (fs k) (fy k) (fx (k + 1)) (fy (k + 1)) :=
  ⟨fun k => ix k (x0 m), fun k => sq (ix k (x0 m)), fun k => iy k (x0 m) (Nat.log2 m), rfl, rfl, lgI_of h0 h1, fun k hk =>
    round_of (ix_in (x0_in h0 h1) k) (iy_le (log2_le h0 h1) (by omega))⟩

end Go.Proofs.Ytidpkkekoldkgaa.Ent
