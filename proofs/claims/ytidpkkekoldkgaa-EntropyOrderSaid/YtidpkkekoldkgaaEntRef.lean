import Derived.Test.YtidpkkekoldkgaaEntWalks
namespace Go.Proofs.Ytidpkkekoldkgaa.Ent
open Go.RowKit

theorem pow_int (k : Nat) (h : k ≤ 30) : (1 : Int) ≤ 2 ^ k ∧ (2 : Int) ^ k ≤ 1073741824 := by
  have h1 : 1 ≤ 2 ^ k := Nat.pow_pos (by omega)
  have h2 : 2 ^ k ≤ 2 ^ 30 := Nat.pow_le_pow_right (by omega) h
  have e : ((2 : Int) ^ k) = ((2 ^ k : Nat) : Int) := by simp
  rw [e]
  omega

theorem pow_le_int {m k : Nat} (h0 : 1 ≤ m) (h : k < Nat.log2 m) : (2 : Int) * 2 ^ k ≤ (m : Int) := by
  have h1 : 2 ^ (k + 1) ≤ m := (Nat.le_log2 (by omega)).1 (by omega)
  have e : ((2 : Int) ^ k) = ((2 ^ k : Nat) : Int) := by simp
  rw [Nat.pow_succ] at h1
  rw [e]
  omega

theorem pow_gt_int {m : Nat} : (m : Int) < (2 : Int) * 2 ^ Nat.log2 m := by
  have h1 : m < 2 ^ (Nat.log2 m + 1) := Nat.lt_log2_self
  have e : ((2 : Int) ^ Nat.log2 m) = ((2 ^ Nat.log2 m : Nat) : Int) := by simp
  rw [Nat.pow_succ] at h1
  rw [e]
  omega

set_option maxRecDepth 100000 in
set_option maxHeartbeats 400000 in
theorem ref_any (n : Int) (w : World) :
    Calls Try.prog 14 #[.int .i64 n] w fun e w' => e = .returned (.int .i64 (lgI n)) ∧ w = w' := by
  by_cases h1 : n < 1
  · have e : lgI n = 0 := lgI_no (.inl h1)
    have E := Lib.hid e
    clear e
    go_enter Try.func14, Try.ntmps14
    go_wp2
    go_ret
    exact ⟨by rw [E.out]; rfl, rfl⟩
  · by_cases h2 : 1073741824 < n
    · have e : lgI n = 0 := lgI_no (.inr h2)
      have E := Lib.hid e
      clear e
      go_enter Try.func14, Try.ntmps14
      go_wp2
      go_ret
      exact ⟨by rw [E.out]; rfl, rfl⟩
    · obtain ⟨m, rfl⟩ : ∃ m : Nat, n = m := ⟨n.toNat, by omega⟩
      have hl := log2_le (n := m) (by omega) (by omega)
      have hx := x0_in (n := m) (by omega) (by omega)
      obtain ⟨fx, fs, fy, f1, f2, f3, f4⟩ := lg_seq (m := m) (by omega) (by omega)
      have hs : (m : Int) * 2 ^ (30 - Nat.log2 m) = (fx 0 : Int) := by
        rw [f1]
        unfold x0
        simp
      have hsb : (fx 0 : Int) ≤ 2147483647 := by rw [f1]; have := hx.2; omega
      have hlow : ∀ k, k < fy 0 → (2 : Int) * 2 ^ k ≤ (m : Int) := fun k hk => pow_le_int (by omega) (by rw [← f2]; exact hk)
      have hhigh : (m : Int) < (2 : Int) * 2 ^ fy 0 := by rw [f2]; exact pow_gt_int
      rw [← f2] at hs hl
      have HF := Lib.hid f3
      have HR := Lib.hid f4
      have HS := Lib.hid hs
      have HLOW := Lib.hid hlow
      have HHIGH := Lib.hid hhigh
      clear f1 f2 f3 f4 hx hs hlow hhigh
      go_enter Try.func14, Try.ntmps14
      go_wp2
      go_loop [3] (fun i => ∃ k : Nat, k ≤ fy 0 ∧ i = .int .i64 k) (fun i => fy 0 - (intOf i).toNat)
      case atStart => exact ⟨0, by omega, rfl⟩
      case round =>
        obtain ⟨k, hk, rfl⟩ := hrel
        obtain ⟨hp1, hp2⟩ := pow_int k (by omega)
        by_cases hlt : k < fy 0
        · have hle := HLOW.out k hlt
          go_wp2
          go_round
          case rel => exact ⟨k + 1, by omega, by go_num⟩
          case measure => simp [intOf]; omega
        · obtain rfl : k = fy 0 := by omega
          have hgd : decide ((2 : Int) * 2 ^ fy 0 ≤ (m : Int)) = false := by have := HHIGH.out; simp; omega
          have hs := HS.out
          go_wp2
          clear hs hgd
          go_loop [4, 5, 6] (fun x' y i => ∃ k : Nat, k ≤ 16 ∧ i = .int .i64 k ∧ y = .int .i64 (fy k : Nat) ∧ x' = .int .i64 (fx k : Nat)) (fun _ _ i => 16 - (intOf i).toNat)
          case atStart => exact ⟨0, by omega, rfl, rfl, rfl⟩
          case round =>
            obtain ⟨k, hk, rfl, rfl, rfl⟩ := hrel
            by_cases hlt : k < 16
            · obtain ⟨r1, r2, r3, r4, r5, r6, r7, r8⟩ := HR.out k hlt
              generalize fs k = S at r1 r2 r5 r7 r8
              generalize fx k = X at r3 r4 r5 ⊢
              by_cases hge : (2147483648 : Int) ≤ (S : Int)
              · obtain ⟨e1, e2⟩ := r7 hge
                have E1 := Lib.hid e1
                have E2 := Lib.hid e2
                clear e1 e2 r7 r8
                generalize fy k = Y at r6 E2 ⊢
                go_wp2
                go_round
                case rel => exact ⟨k + 1, by omega, by go_num, by rw [E2.out]; go_num, by rw [E1.out]; go_num⟩
                case measure => simp [intOf]; omega
              · obtain ⟨e1, e2⟩ := r8 (by omega)
                have E1 := Lib.hid e1
                have E2 := Lib.hid e2
                clear e1 e2 r7 r8
                generalize fy k = Y at r6 E2 ⊢
                have hge' : (S : Int) ≤ (2147483647 : Int) := by omega
                have hgd : decide ((2147483648 : Int) ≤ (S : Int)) = false := by simpa using hge
                clear hge
                go_wp2
                go_round
                case rel => exact ⟨k + 1, by omega, by go_num, by rw [E2.out]; go_num, by rw [E1.out]⟩
                case measure => simp [intOf]; omega
            · obtain rfl : k = 16 := by omega
              go_wp2
              go_ret
              exact ⟨by rw [HF.out]; rfl, rfl⟩
end Go.Proofs.Ytidpkkekoldkgaa.Ent
