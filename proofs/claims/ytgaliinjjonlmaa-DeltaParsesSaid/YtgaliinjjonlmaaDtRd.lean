import Derived.Test.YtgaliinjjonlmaaDtFmt
import Derived.Test.YtgaliinjjonlmaaDtMake
namespace Go.Proofs.Ytgaliinjjonlmaa.Dt
open Go.RowKit
open Go.Proofs.Ytgaliinjjonlmaa.Tp
set_option linter.unusedVariables false

theorem or_i64 (x y : Int) (i : Nat) (hx0 : 0 ≤ x) (hx : x % 2 ^ i = 0) (hx1 : x ≤ 2000000000) (hy0 : 0 ≤ y) (hy : y < 2 ^ i) (hy1 : y ≤ 2000000000) : bits .or .i64 x y = x + y :=
  bits_join .i64 31 (by decide) (fun n h0 h1 => by rw [IntKind.wrap_i64]; omega) i x y hx0 hx (by omega) hy0 hy (by omega)

set_option maxRecDepth 100000 in
set_option maxHeartbeats 400000 in
theorem readnum_any (G b off L c x y z i : Nat) (w : World) (hg : w.cell? ⟨G, 0, none⟩ = some (.slice (some ⟨b, off, none⟩) L c)) (hi : i + 2 < L) (hL : L ≤ 200000)
    (h0 : w.cell? ⟨b, off + i, none⟩ = some (.int .u8 (x : Int))) (h1 : w.cell? ⟨b, off + (i + 1), none⟩ = some (.int .u8 (y : Int))) (h2 : w.cell? ⟨b, off + (i + 2), none⟩ = some (.int .u8 (z : Int))) (hx : x ≤ 255) (hy : y ≤ 255) (hz : z ≤ 255) :
    Calls Try.prog 78 #[.int .i64 (i : Int), .pointer (some ⟨G, 0, none⟩)] w fun e w' => e = .returned (.int .i64 ((x * 65536 + y * 256 + z : Nat) : Int)) ∧ Below w.heap.size w w' := by
  have i0 : (0 : Int) ≤ (i : Int) := by omega
  have i1 : (i : Int) < (L : Int) := by omega
  have i2 : (0 : Int) ≤ (i : Int) + 1 := by omega
  have i3 : (i : Int) + 1 < (L : Int) := by omega
  have i4 : (0 : Int) ≤ (i : Int) + 2 := by omega
  have i5 : (i : Int) + 2 < (L : Int) := by omega
  go_enter Try.func78, Try.ntmps78
  go_wp2
  go_quiet (fail)
  go_wp2
  go_ret
  have o1 : bits .or .i64 ((x : Int) * 65536) ((y : Int) * 256) = (x : Int) * 65536 + (y : Int) * 256 := or_i64 _ _ 16 (by omega) (by omega) (by omega) (by omega) (by omega) (by omega)
  have o2 : bits .or .i64 ((x : Int) * 65536 + (y : Int) * 256) (z : Int) = (x : Int) * 65536 + (y : Int) * 256 + z := or_i64 _ _ 8 (by omega) (by omega) (by omega) (by omega) (by omega) (by omega)
  refine ⟨by rw [o1, o2]; simp, ?_⟩
  exact below_drewN' (Below.refl _ _) _

end Go.Proofs.Ytgaliinjjonlmaa.Dt
