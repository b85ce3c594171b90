import Derived.Test.YtidpkkekoldkgaaFpInj
import Derived.Lib.SlBytesConst
namespace Go.Proofs.Ytidpkkekoldkgaa.Fp
open Go.RowKit
open Go.Proofs.Ytidpkkekoldkgaa.Ent (Bytes)
set_option linter.unusedVariables false

theorem bytes_new (w : World) (bs : List Nat) (cs : Array Value) (fr : Nat × Nat) (h : ∀ b ∈ bs, b ≤ 255) (hc : cs = (bs.map fun b : Nat => Value.int .u8 (b : Int)).toArray) (hm : bs.length ≤ 9223372036854775807) :
    Bytes (w.alloc (.cells cs 5 fr)) (some ⟨w.heap.size, 0, none⟩) bs.length bs := by
  subst hc
  refine ⟨rfl, h, hm, fun _ => ⟨_, _, rfl, by simp, fun j hj => ?_⟩⟩
  rw [Nat.zero_add, cell_of_row _ _ _ _ _ _ (heap_alloc_new _ _)]
  simp [hj]

theorem mix0 : mixI 0 = 0 := by decide +kernel
theorem ab_ne : (ofI 1 0 [97] != ofI 1 0 [98]) = true := by decide +kernel

set_option maxRecDepth 100000 in
set_option maxHeartbeats 600000 in
theorem awake_any (w : World) : Calls Try.prog 30 #[] w fun e w' => e = .returned (.bool true) ∧ Below w.heap.size w w' := by
  have h0 := fun w => mix_any 0 w
  rw [mix0] at h0
  have ha := fun w => of_any 1 0 _ 1 1 [97] _ (bytes_new w [97] #[.int .u8 97] (1, 2) (by decide) rfl (by decide)) (Nat.le_refl _)
  have hb := fun w => of_any 1 0 _ 1 1 [98] _ (bytes_new w [98] #[.int .u8 98] (1, 2) (by decide) rfl (by decide)) (Nat.le_refl _)
  have hne := ab_ne
  generalize ofI 1 0 [97] = X at *
  generalize ofI 1 0 [98] = Y at *
  have kc := fun (w : World) (C : Array Value) (n c : Nat) => Lib.run_convert_bytes_const (P := Try.prog) w 27 5 C n c Try.underlying27 Try.underlying5
  have H0 := Lib.hid h0
  have HA := Lib.hid ha
  have HB := Lib.hid hb
  clear h0 ha hb
  go_enter Try.func30, Try.ntmps30
  go_wp2_with (first
    | (go_at_call 28; refine (H0.out _).mono ?_; rintro e w' ⟨rfl, rfl⟩)
    | (go_at_call 26; refine (HA.out _).mono ?_; clear HA; rintro e w1 ⟨rfl, h1⟩; have H1 := Lib.hid h1; clear h1)
    | (go_at_call 26; refine (HB.out _).mono ?_; clear HB; rintro e w2 ⟨rfl, h2⟩; have H2 := Lib.hid h2; clear h2))
  go_ret
  exact ⟨rfl, (((Below.refl w.heap.size w).alloc (Nat.le_refl _) (.cells #[.int .u8 97] 5 (1, 2))).trans (H1.out.mono (by simp))).trans ((((Below.refl _ w1).alloc (Nat.le_refl _) (.cells #[.int .u8 98] 5 (1, 2))).trans (H2.out.mono (by simp))).mono (by have := H1.out.size; simp at this; omega))⟩
end Go.Proofs.Ytidpkkekoldkgaa.Fp
