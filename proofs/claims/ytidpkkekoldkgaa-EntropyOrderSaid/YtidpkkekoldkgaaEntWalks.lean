import Derived.Test.YtidpkkekoldkgaaRows
import Derived.Test.YtidpkkekoldkgaaShelf
import Derived.Test.YtidpkkekoldkgaaEntMath
import Derived.WalkKit
import Derived.Lib.Hide
import Derived.WalkSpells
import Derived.WalkLawsBesides
namespace Go.Proofs.Ytidpkkekoldkgaa.Ent
open Go.RowKit

theorem bitLen_log2 : ∀ (f n : Nat), n < 2 ^ f → 1 ≤ n → Lib.bitLenAux f n = Nat.log2 n + 1
  | 0, n, h, h0 => by rw [Nat.pow_zero] at h; omega
  | f + 1, n, h, h0 => by
    by_cases h1 : n = 1
    · subst h1
      have e : Nat.log2 1 = 0 := by decide
      rw [e]
      cases f <;> simp [Lib.bitLenAux]
    · have ih := bitLen_log2 f (n / 2) (by rw [Nat.pow_succ] at h; omega) (by omega)
      rw [Lib.bitLenAux, if_neg (by omega), ih, Nat.log2_def n, if_pos (by omega)]
      omega

theorem len_any (m : Nat) (w : World) (h0 : 1 ≤ m) (h1 : m ≤ 1073741824) :
    Calls Try.prog 34 #[.int .u64 m] w fun e w' => e = .returned (.int .i64 ((Nat.log2 m : Int) + 1)) ∧ w = w' :=
  (Try.bits_Len m w (by omega) (by omega)).mono fun _ _ ⟨he, hw⟩ => ⟨by
    rw [he, Int.toNat_natCast, Lib.bitLen, bitLen_log2 64 m (by omega) h0]; rfl, hw.symm⟩

set_option maxRecDepth 100000 in
set_option maxHeartbeats 400000 in
theorem log_any (n : Int) (w : World) :
    Calls Try.prog 13 #[.int .i64 n] w fun e w' => e = .returned (.int .i64 (lgI n)) ∧ w = w' := by
  by_cases h1 : n < 1
  · have e : lgI n = 0 := lgI_no (.inl h1)
    have E := Lib.hid e
    clear e
    go_enter Try.func13, Try.ntmps13
    go_wp2
    go_ret
    exact ⟨by rw [E.out]; rfl, rfl⟩
  · by_cases h2 : 1073741824 < n
    · have e : lgI n = 0 := lgI_no (.inr h2)
      have E := Lib.hid e
      clear e
      go_enter Try.func13, Try.ntmps13
      go_wp2
      go_ret
      exact ⟨by rw [E.out]; rfl, rfl⟩
    · obtain ⟨m, rfl⟩ : ∃ m : Nat, n = m := ⟨n.toNat, by omega⟩
      have hl := log2_le (n := m) (by omega) (by omega)
      have hx := x0_in (n := m) (by omega) (by omega)
      have hc := fun w => len_any m w (by omega) (by omega)
      obtain ⟨fx, fs, fy, f1, f2, f3, f4⟩ := lg_seq (m := m) (by omega) (by omega)
      have hs : IntKind.u64.wrap ((m : Int) * 2 ^ (30 - Nat.log2 m)) = (fx 0 : Int) := by
        rw [f1]
        have e2 : ((m : Int) * 2 ^ (30 - Nat.log2 m)) = ((x0 m : Nat) : Int) := by unfold x0; simp
        rw [e2]
        have := hx.2
        simp [IntKind.wrap, IntKind.bits, IntKind.signed]
        omega
      rw [← f2] at hs hl hc
      have HF := Lib.hid f3
      have HR := Lib.hid f4
      have HC := Lib.hid hc
      clear f1 f2 f3 f4 hc hx
      go_enter Try.func13, Try.ntmps13
      go_wp2_with (go_at_call 34; refine (HC.out _).mono ?_; rintro e w' ⟨rfl, rfl⟩)
      clear hs
      go_loop [3, 4, 20] (fun y x' i => ∃ k : Nat, k ≤ 16 ∧ i = .int .i64 k ∧ y = .int .i64 (fy k : Nat) ∧ x' = .int .u64 (fx k : Nat)) (fun _ _ i => 16 - (intOf i).toNat)
      case atStart => exact ⟨0, by omega, rfl, rfl, rfl⟩
      case round =>
        obtain ⟨k, hk, rfl, rfl, rfl⟩ := hrel
        by_cases hlt : k < 16
        · obtain ⟨r1, r2, r3, r4, r5, r6, r7, r8⟩ := HR.out k hlt
          generalize fs k = S at r1 r2 r5 r7 r8
          generalize fx k = X at r3 r4 r5 ⊢
          by_cases hge : (2147483648 : Int) ≤ (S : Int)
          · obtain ⟨e1, e2⟩ := r7 hge
            have E1 := Lib.hid e1
            have E2 := Lib.hid e2
            clear e1 e2 r7 r8
            generalize fy k = Y at r6 E2 ⊢
            go_wp2
            go_round
            case rel => exact ⟨k + 1, by omega, by go_num, by rw [E2.out]; go_num, by rw [E1.out]; go_num⟩
            case measure => simp [intOf]; omega
          · obtain ⟨e1, e2⟩ := r8 (by omega)
            have E1 := Lib.hid e1
            have E2 := Lib.hid e2
            clear e1 e2 r7 r8
            generalize fy k = Y at r6 E2 ⊢
            have hge' : (S : Int) ≤ (2147483647 : Int) := by omega
            have hgd : decide ((2147483648 : Int) ≤ (S : Int)) = false := by simpa using hge
            clear hge
            go_wp2
            go_round
            case rel => exact ⟨k + 1, by omega, by go_num, by rw [E2.out]; go_num, by rw [E1.out]⟩
            case measure => simp [intOf]; omega
        · obtain rfl : k = 16 := by omega
          go_wp2
          go_ret
          exact ⟨by rw [HF.out]; rfl, rfl⟩
end Go.Proofs.Ytidpkkekoldkgaa.Ent
