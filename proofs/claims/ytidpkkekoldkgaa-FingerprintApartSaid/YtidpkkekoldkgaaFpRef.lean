/- The contract of the fingerprint's specification. -/
import Derived.Test.YtidpkkekoldkgaaFpAwake
namespace Go.Proofs.Ytidpkkekoldkgaa.Fp
open Go.RowKit
open Go.Proofs.Ytidpkkekoldkgaa.Ent (Bytes)
set_option linter.unusedVariables false

theorem chunk_get (bs : List Nat) (j k : Nat) (hk : k < 8) : (chunkB bs j).getD k 0 = bs.getD (8 * j + k) 0 := by
  simp [chunkB, List.getD_eq_getElem?_getD, hk, List.getElem?_drop]

theorem wTo_step (bs : List Nat) (j k : Nat) (hk : k < 8) : wTo (chunkB bs j) (k + 1) = bits .or .u64 (wTo (chunkB bs j) k) (IntKind.u64.wrap ((bs.getD (8 * j + k) 0 : Nat) * 2 ^ (8 * k))) := by
  rw [← chunk_get bs j k hk]
  rfl

set_option maxRecDepth 100000 in
set_option maxHeartbeats 1000000 in
theorem refof_any (key kind : Int) (A : Option Addr) (n c : Nat) (bs : List Nat) (w : World) (h : Bytes w A n bs) (hn : n ≤ 65536) :
    Calls Try.prog 27 #[.int .u64 key, .int .i64 kind, .slice A n c] w fun e w' => e = .returned (.int .u64 (ofI key kind bs)) ∧ w' = w := by
  obtain ⟨hlen, hbyte, hmax, hmem⟩ := h
  have HMX := Lib.hid refmix_any
  have hofs : ofI key kind bs = hOf key kind bs (List.range (numC n)) := by
    unfold ofI
    rw [if_neg (by omega), hlen]
  have hh0 : hOf key kind bs (List.range 0) = mixI (bits .xor .u64 (mixI (bits .xor .u64 (mixI key) (IntKind.u64.wrap kind))) (n : Int)) := by
    rw [← hlen]
    rfl
  have HOFS := Lib.hid hofs
  have HH0 := Lib.hid hh0
  have HLEN := Lib.hid hlen
  have HB := Lib.hid hbyte
  have HM := Lib.hid hmem
  clear hlen hbyte hmem hmax hofs hh0
  have hn0 : (n : Int) ≤ 65536 := by omega
  have hn1 : decide ((65536 : Int) < (n : Int)) = false := by rw [decide_eq_false_iff_not]; omega
  go_enter Try.func27, Try.ntmps27
  go_wp2_with (first
    | (go_at_call 29; refine (HMX.out _ _).mono ?_; rintro e w6 ⟨rfl, rfl⟩))
  rw [← HH0.out]
  clear hn1
  go_loop [7, 8, 9, 10] (fun h i _ _ => ∃ j : Nat, j ≤ numC n ∧ i = .int .i64 ((8 * j : Nat) : Int) ∧ h = .int .u64 (hOf key kind bs (List.range j))) (fun _ i _ _ => n + 8 - (intOf i).toNat)
  case atStart => exact ⟨0, Nat.zero_le _, rfl, rfl⟩
  case round =>
    obtain ⟨j, hj, rfl, rfl⟩ := hrel
    have hjn : j < numC n ↔ 8 * j < n := by unfold numC; omega
    by_cases hlt : 8 * j < n
    · have hj2 := hjn.2 hlt
      obtain ⟨M, hM⟩ : ∃ M, min 8 (n - 8 * j) = M := ⟨_, rfl⟩
      have hM8 : M ≤ 8 := by omega
      have hMn : 8 * j + M ≤ n := by omega
      have hMe : M = 8 ∨ 8 * j + M = n := by omega
      have hsn : hOf key kind bs (List.range (j + 1)) = stepI bs (hOf key kind bs (List.range j)) j := by rw [← range_snoc, hOf_snoc]
      unfold stepI at hsn
      rw [HLEN.out, hM] at hsn
      clear hM hjn
      obtain ⟨b, off, rfl, hb, hcell⟩ := HM.out (by omega)
      have hst := fun k (hk : k < 8) => wTo_step bs j k hk
      have hby : ∀ k, 8 * j + k < n → bs.getD (8 * j + k) 0 ≤ 255 := by
        intro k hk
        have hk2 : 8 * j + k < bs.length := by rw [HLEN.out]; exact hk
        rw [List.getD_eq_getElem?_getD, List.getElem?_eq_getElem hk2]
        exact HB.out _ (List.getElem_mem hk2)
      generalize hOf key kind bs (List.range j) = S at *
      obtain ⟨K8, hK8⟩ : ∃ K8, 8 * j = K8 := ⟨_, rfl⟩
      rw [hK8] at hlt hMn hMe hst hby ⊢
      have HSN := Lib.hid hsn
      have HST := Lib.hid hst
      have HBY := Lib.hid hby
      have HCE := Lib.hid hcell
      have HK8 := Lib.hid hK8
      have HMe := Lib.hid hMe
      clear hsn hst hby hcell hK8 hMe
      generalize hW : wTo (chunkB bs j) = W at *
      have hw0 : W 0 = 0 := by rw [← hW]; rfl
      have HW0 := Lib.hid hw0
      clear hw0 hW
      go_wp2
      go_loop [9, 10] (fun s i => ∃ k : Nat, k ≤ M ∧ i = .int .i64 k ∧ s = .int .u64 (W k)) (fun _ i => M - (intOf i).toNat)
      case atStart => exact ⟨0, Nat.zero_le _, rfl, by rw [HW0.out]⟩
      case round =>
        obtain ⟨k, hk, rfl, rfl⟩ := hrel
        by_cases hkM : k < M
        · have hc1 := HCE.out (K8 + k) (by omega)
          have hs1 := HST.out k (by omega)
          have hb1 := HBY.out k (by omega)
          have HS1 := Lib.hid hs1
          clear hs1
          generalize bs.getD (K8 + k) 0 = z at *
          generalize hWk : W k = S2 at *
          have e1 : decide ((k : Int) < 8) = true := by rw [decide_eq_true_iff]; omega
          have e2 : decide ((K8 : Int) + (k : Int) < (n : Int)) = true := by rw [decide_eq_true_iff]; omega
          go_wp2
          exact ⟨⟨k + 1, by omega, by go_num, by rw [HS1.out]⟩, by simp [intOf]; omega⟩
        · obtain rfl : k = M := by omega
          rcases HMe.out with rfl | hkn
          all_goals go_wp2
          all_goals exact ⟨⟨j + 1, by omega, by have := HK8.out; omega, by rw [HSN.out, mixI]⟩, by simp [intOf]; omega⟩
    · have hje : j = numC n := by unfold numC at *; omega
      subst hje
      go_wp2
      go_ret
      exact ⟨by rw [HOFS.out]; rfl, rfl⟩
end Go.Proofs.Ytidpkkekoldkgaa.Fp
