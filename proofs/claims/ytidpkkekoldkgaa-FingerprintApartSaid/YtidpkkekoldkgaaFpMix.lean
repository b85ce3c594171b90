import Derived.Test.YtidpkkekoldkgaaFrame
namespace Go.Proofs.Ytidpkkekoldkgaa.Fp
open Go.RowKit
open Go.Proofs.Ytidpkkekoldkgaa.Ent (Bytes)
set_option linter.unusedVariables false

/-- Mix, in the model's own words. -/
def mixI (x : Int) : Int :=
  bits .xor .u64 (IntKind.u64.wrap (bits .xor .u64 (IntKind.u64.wrap (bits .xor .u64 x (x / 1073741824) * 13787848793156543929)) (IntKind.u64.wrap (bits .xor .u64 x (x / 1073741824) * 13787848793156543929) / 134217728) * 10723151780598845931))
    (IntKind.u64.wrap (bits .xor .u64 (IntKind.u64.wrap (bits .xor .u64 x (x / 1073741824) * 13787848793156543929)) (IntKind.u64.wrap (bits .xor .u64 x (x / 1073741824) * 13787848793156543929) / 134217728) * 10723151780598845931) / 2147483648)

set_option maxHeartbeats 400000 in
theorem mix_any (x : Int) (w : World) : Calls Try.prog 28 #[.int .u64 x] w fun e w' => e = .returned (.int .u64 (mixI x)) ∧ w = w' := by
  go_enter Try.func28, Try.ntmps28
  go_wp2
  go_ret
  exact ⟨rfl, rfl⟩

set_option maxHeartbeats 400000 in
theorem refmix_any (x : Int) (w : World) : Calls Try.prog 29 #[.int .u64 x] w fun e w' => e = .returned (.int .u64 (mixI x)) ∧ w = w' := by
  go_enter Try.func29, Try.ntmps29
  go_wp2
  go_ret
  exact ⟨rfl, rfl⟩

/-- The number of the first k bytes. -/
def wTo (bs : List Nat) : Nat → Int
  | 0 => 0
  | k + 1 => bits .or .u64 (wTo bs k) (IntKind.u64.wrap ((bs.getD k 0 : Nat) * 2 ^ (8 * k)))

set_option maxRecDepth 100000 in
set_option maxHeartbeats 600000 in
theorem word_any (A : Option Addr) (n c : Nat) (bs : List Nat) (w : World) (h : Bytes w A n bs) (hn : n ≤ 8) :
    Calls Try.prog 36 #[.slice A n c] w fun e w' => e = .returned (.int .u64 (wTo bs n)) ∧ w = w' := by
  obtain ⟨hlen, hbyte, hmax, hmem⟩ := h
  have HLEN := Lib.hid hlen
  have HB := Lib.hid hbyte
  have HM := Lib.hid hmem
  clear hlen hbyte hmem hmax
  go_enter Try.func36, Try.ntmps36
  go_wp2
  go_loop [3, 4, 5, 8] (fun s _ _ i => ∃ k : Nat, k ≤ n ∧ i = .int .i64 k ∧ s = .int .u64 (wTo bs k)) (fun _ _ _ i => n - (intOf i).toNat)
  case atStart => exact ⟨0, by omega, rfl, rfl⟩
  case round =>
    obtain ⟨k, hk, rfl, rfl⟩ := hrel
    by_cases hlt : k < n
    · obtain ⟨b, off, rfl, hb, hcell⟩ := HM.out (by omega)
      have hc1 := hcell k hlt
      have hst : wTo bs (k + 1) = bits .or .u64 (wTo bs k) (IntKind.u64.wrap ((bs.getD k 0 : Nat) * 2 ^ (8 * k))) := rfl
      have HST := Lib.hid hst
      have hby : bs.getD k 0 ≤ 255 := by
        have hk2 : k < bs.length := by rw [HLEN.out]; exact hlt
        rw [List.getD_eq_getElem?_getD, List.getElem?_eq_getElem hk2]
        exact HB.out _ (List.getElem_mem hk2)
      clear hst hcell
      generalize bs.getD k 0 = z at *
      generalize wTo bs k = S at *
      go_wp2
      exact ⟨⟨k + 1, by omega, by go_num, by rw [HST.out]⟩, by simp [intOf]; omega⟩
    · obtain rfl : k = n := by omega
      go_wp2
      go_ret
      exact ⟨rfl, rfl⟩
end Go.Proofs.Ytidpkkekoldkgaa.Fp
