/- For every two integers, EntropyGrows returns true: the logarithm never falls, doubling adds 65536, and powers of two are exact. No condition. -/
import Derived.Test.YtidpkkekoldkgaaEntAwake
import Derived.ProofKit
import Derived.OpenShut
namespace Go.Proofs.Ytidpkkekoldkgaa.entropyGrows
open Go.ChangeShapes Go.WideShapes Go.ChangeAt Go.RowKit
open Go.Proofs.Ytidpkkekoldkgaa.Ent
set_option linter.unusedVariables false

theorem own : ownKnob Try.prog.godebug = none := by kernel_rfl

theorem swap_le (L : Int → Int) (hmono : ∀ a b, 1 ≤ a → a ≤ b → b ≤ 1048576 → L a ≤ L b) (N M : Int) (h0 : 0 ≤ N) (h1 : N ≤ 1048575) (h2 : 0 ≤ M) (h3 : M ≤ 1048575) :
    (M < N → L (1 + M) ≤ L (1 + N)) ∧ (¬ M < N → L (1 + N) ≤ L (1 + M)) :=
  ⟨fun h => hmono _ _ (by omega) (by omega) (by omega), fun h => hmono _ _ (by omega) (by omega) (by omega)⟩

theorem lgI_mono (a b : Int) (h0 : 1 ≤ a) (h : a ≤ b) (hb : b ≤ 1048576) : lgI a ≤ lgI b := by
  obtain ⟨x, rfl⟩ : ∃ x : Nat, a = x := ⟨a.toNat, by omega⟩
  obtain ⟨y, rfl⟩ : ∃ y : Nat, b = y := ⟨b.toNat, by omega⟩
  rw [lgI_of (by omega) (by omega), lgI_of (by omega) (by omega)]
  have := lg_mono (a := x) (b := y) (by omega) (by omega)
  omega

theorem lgI_double (a : Int) (h0 : 1 ≤ a) (h : a ≤ 1048576) : lgI (2 * a) = lgI a + 65536 := by
  obtain ⟨x, rfl⟩ : ∃ x : Nat, a = x := ⟨a.toNat, by omega⟩
  have e : (2 : Int) * (x : Int) = ((2 * x : Nat) : Int) := by simp
  rw [e, lgI_of (by omega) (by omega), lgI_of (by omega) (by omega), lg_double (by omega) (by omega)]
  rfl

theorem lgI_pow (k : Nat) (h : k ≤ 15) : lgI (2 ^ k) = (k : Int) * 65536 := by
  have e : ((2 : Int) ^ k) = ((2 ^ k : Nat) : Int) := by simp
  have h1 : 1 ≤ 2 ^ k := Nat.pow_pos (by omega)
  have h2 : 2 ^ k ≤ 2 ^ 15 := Nat.pow_le_pow_right (by omega) h
  rw [e, lgI_of h1 (by omega), lg_pow (by omega)]
  rfl

/-- The law's walk, its numbers plain variables. -/
def LogAt (x y : Int) : Prop := ∀ w : World, Calls Try.prog 13 #[.int .i64 x] w fun e w' => e = .returned (.int .i64 y) ∧ w = w'
theorem LogAt.on {x y : Int} (h : LogAt x y) (w : World) : Calls Try.prog 13 #[.int .i64 x] w fun e w' => e = .returned (.int .i64 y) ∧ w = w' := h w

set_option maxRecDepth 100000 in
set_option maxHeartbeats 800000 in
theorem walk_core (a0 a1 N M A B P : Int) (K : Nat) (hn : bits .and .i64 a0 1048575 = N) (hm : bits .and .i64 a1 1048575 = M) (hk : bits .and .i64 a0 15 = K)
    (n0 : 0 ≤ N) (n1 : N ≤ 1048575) (m0 : 0 ≤ M) (m1 : M ≤ 1048575) (k1 : (K : Int) ≤ 15) (b1 : 0 ≤ A) (b2 : A ≤ 2031615) (p0 : 0 ≤ P) (p1 : P ≤ 32768) (hP : (2 : Int) ^ K = P)
    (hle : (M < N → B ≤ A) ∧ (¬ M < N → A ≤ B)) (hN : LogAt (1 + N) A) (hM : LogAt (1 + M) B) (hX : M < N → LogAt (2 * (1 + M)) (B + 65536)) (hY : ¬ M < N → LogAt (2 * (1 + N)) (A + 65536)) (hZ : LogAt P (K * 65536)) (b3 : 0 ≤ B) (b4 : B ≤ 2031615) (w : World) :
    Calls Try.prog 6 #[.int .i64 a0, .int .i64 a1] w fun e w' => e = .returned (.bool true) ∧ Below w.heap.size w w' := by
  have haw := awake_any
  have HAW := Lib.hid haw
  have HN := Lib.hid hN
  have HM := Lib.hid hM
  have HX := Lib.hid hX
  have HY := Lib.hid hY
  have HZ := Lib.hid hZ
  clear haw hN hM hX hY hZ
  obtain ⟨h1, h2⟩ := hle
  by_cases hlt : M < N
  · have hba := h1 hlt
    have hx := HX.out hlt
    have HX2 := Lib.hid hx
    clear h1 h2 hx HX HY
    go_enter Try.func6, Try.ntmps6
    go_wp2_with (first
      | (go_at_call 13; (with_reducible refine (HN.out.on _).mono ?_); rintro e w' ⟨rfl, rfl⟩)
      | (go_at_call 13; (with_reducible refine (HM.out.on _).mono ?_); rintro e w' ⟨rfl, rfl⟩)
      | (go_at_call 13; (with_reducible refine (HX2.out.on _).mono ?_); rintro e w' ⟨rfl, rfl⟩)
      | (go_at_call 13; (with_reducible refine (HZ.out.on _).mono ?_); rintro e w' ⟨rfl, rfl⟩)
      | (go_at_call 15; refine (HAW.out _).mono ?_; rintro e w' ⟨rfl, hb⟩; have HB := Lib.hid hb; clear hb))
    go_ret
    exact ⟨rfl, HB.out⟩
  · have hba := h2 hlt
    have hx := HY.out hlt
    have HX2 := Lib.hid hx
    clear h1 h2 hx HX HY
    go_enter Try.func6, Try.ntmps6
    go_wp2_with (first
      | (go_at_call 13; (with_reducible refine (HN.out.on _).mono ?_); rintro e w' ⟨rfl, rfl⟩)
      | (go_at_call 13; (with_reducible refine (HM.out.on _).mono ?_); rintro e w' ⟨rfl, rfl⟩)
      | (go_at_call 13; (with_reducible refine (HX2.out.on _).mono ?_); rintro e w' ⟨rfl, rfl⟩)
      | (go_at_call 13; (with_reducible refine (HZ.out.on _).mono ?_); rintro e w' ⟨rfl, rfl⟩)
      | (go_at_call 15; refine (HAW.out _).mono ?_; rintro e w' ⟨rfl, hb⟩; have HB := Lib.hid hb; clear hb))
    go_ret
    exact ⟨rfl, HB.out⟩

theorem log_at (x : Int) : LogAt x (lgI x) := fun w => log_any x w

theorem walk (a0 : Int) (a1 : Int) (w : World) :
    Calls Try.prog 6 #[.int .i64 a0, .int .i64 a1] w fun e w' => e = .returned (.bool true) ∧ Below w.heap.size w w' := by
  obtain ⟨K, hK⟩ : ∃ K : Nat, a0 % 16 = (K : Int) := ⟨(a0 % 16).toNat, by omega⟩
  have hK15 : K ≤ 15 := by omega
  have hp : (2 : Int) ^ K ≤ 32768 ∧ (0 : Int) ≤ 2 ^ K := by
    have e : ((2 : Int) ^ K) = ((2 ^ K : Nat) : Int) := by simp
    have h2 : 2 ^ K ≤ 2 ^ 15 := Nat.pow_le_pow_right (by omega) hK15
    rw [e]
    have h3 : ((2 ^ K : Nat) : Int) ≤ 32768 := Int.ofNat_le.2 (Nat.le_trans h2 (by decide))
    exact ⟨h3, Int.natCast_nonneg _⟩
  have b1 := lgI_bd (1 + a0 % 1048576)
  have b2 := lgI_bd (1 + a1 % 1048576)
  have n0 : 0 ≤ a0 % 1048576 ∧ a0 % 1048576 ≤ 1048575 := by omega
  have m0 : 0 ≤ a1 % 1048576 ∧ a1 % 1048576 ≤ 1048575 := by omega
  exact walk_core a0 a1 (a0 % 1048576) (a1 % 1048576) (lgI (1 + a0 % 1048576)) (lgI (1 + a1 % 1048576)) (2 ^ K) K (and_1048575 a0) (and_1048575 a1) (by rw [and_15, hK])
    n0.1 n0.2 m0.1 m0.2 (by omega) b1.1 b1.2 hp.2 hp.1 rfl (swap_le lgI lgI_mono _ _ n0.1 n0.2 m0.1 m0.2)
    (log_at _) (log_at _) (fun _ => by rw [← lgI_double _ (by omega) (by omega)]; exact log_at _) (fun _ => by rw [← lgI_double _ (by omega) (by omega)]; exact log_at _)
    (by rw [← lgI_pow K hK15]; exact log_at _) b2.1 b2.2 w

/-! ### THE ROW's STEP: WRITTEN OUT: LEAVE IT -/
set_option maxRecDepth 100000 in
theorem lifted (os : Os) (started : os.Started) (H : Type) (enc : TypeId × Value → H) :
    ReturnsInHanded {} Try.checked os 6 .any (Rows.entropyGrowsSpec.pre6 enc Try.prog Try.f6 Rows.entropyGrowsRow.domain false) (Rows.entropyGrowsSpec.post enc Try.prog Try.f6 false true false false) := by
  refine returnsInHanded_of_change (C := Try.checked) own started (by kernel_rfl) Try.func6
    (ChangeSpec.witness6 (enc := enc) (C := Try.checked) false ⟨#[], #[.int .i64 0, .int .i64 0], []⟩ 8 (by kernel_rfl) (by kernel_rfl) (by kernel_rfl) (by kernel_rfl)) ?_
  intro W base args ds gs before hval0 hW hcnd _
  have hval : ∀ (j : Nat) t v, Try.f6.params[j]? = some t → args[j]? = some v → Value.okWide Try.prog W .any base t v := hval0
  have hW' := hW
  obtain ⟨p, q, hA0, hV, rfl, hfz, hnd⟩ := hW
  have hA : DataW.TrodAll enc Try.prog W 0 (fun _ => true) true Try.f6.params.toList args.toList ds p := hA0
  rw [Try.params6] at hA hval
  obtain ⟨v0, vs0, d0, ds0, p0, q0, hargs, rfl, rfl, h0, r0⟩ := trodAll_cons hA
  obtain ⟨v1, vs1, d1, ds1, p1, q1, rfl, rfl, rfl, h1, r1⟩ := trodAll_cons r0
  obtain ⟨rfl, rfl, rfl⟩ := trodAll_nil r1
  obtain rfl : args = #[v0, v1] := by cases args; simp_all
  obtain ⟨rfl, rfl⟩ := trodVars_none hV
  obtain ⟨a0, rfl, rfl, rfl, w0⟩ := open_int Try.underlying3 (hval 0 3 v0 rfl rfl) h0
  obtain ⟨a1, rfl, rfl, rfl, w1⟩ := open_int Try.underlying3 (hval 1 3 v1 rfl rfl) h1
  clear hA0 hval0
  refine (walk a0 a1 W).mono fun e W' ⟨he, bel⟩ => ?_
  subst he
  exact ⟨_, rfl, _, _, _, [], _, [], hW', trodAll_mk1 (shut_bool Try.underlying4 _), (trodAll_cons_mk (shut_int Try.underlying3 w0) (trodAll_cons_mk (shut_int Try.underlying3 w1) trodAll_mk0)), rfl, bel.frame _, fun h => by cases h⟩

theorem over : Rows.entropyGrowsRow.holds Try.pinned (OpenSpec.ofChange Rows.entropyGrowsSpec) :=
  OpenClaim.holds_of_wide 6 Try.f6 rfl rfl rfl rfl rfl rfl rfl ⟨rfl, rfl, rfl, rfl, rfl⟩ rfl rfl rfl rfl rfl (by kernel_rfl) Try.func6 (by kernel_rfl)
    (of_decide_eq_true (by kernel_rfl)) (by unfold Func.isWrapper; first | (rw [if_pos (by decide +kernel)]; kernel_rfl) | (rw [if_neg (by decide +kernel)]; exact ⟨rfl, rfl⟩))
    (fun os started H enc _ => lifted os started H enc)

/-- ████ THE STATEMENT ████ -/
theorem proved : Rows.EntropyGrowsSaid :=
  over
#print axioms proved
end Go.Proofs.Ytidpkkekoldkgaa.entropyGrows
