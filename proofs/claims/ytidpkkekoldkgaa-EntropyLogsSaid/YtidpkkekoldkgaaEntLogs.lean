/- For every integer, EntropyLogs returns true: the program's logarithm is the specification's. No condition. -/
import Derived.Test.YtidpkkekoldkgaaEntAwake
import Derived.Deep.QuietTactic
import Derived.BigQuiet
import Derived.ProofKit
import Derived.OpenShut
namespace Go.Proofs.Ytidpkkekoldkgaa.entropyLogs
open Go.ChangeShapes Go.WideShapes Go.ChangeAt Go.RowKit
open Go.Proofs.Ytidpkkekoldkgaa.Ent
set_option linter.unusedVariables false

theorem own : ownKnob Try.prog.godebug = none := by kernel_rfl

theorem log_same (x : Int) (w : World) : Calls Try.prog 13 #[.int .i64 x] w fun e w' => e = .returned (.int .i64 (lgI x)) ∧ w' = w :=
  (log_any x w).mono fun _ _ ⟨he, hw⟩ => ⟨he, hw.symm⟩
theorem ref_same (x : Int) (w : World) : Calls Try.prog 14 #[.int .i64 x] w fun e w' => e = .returned (.int .i64 (lgI x)) ∧ w' = w :=
  (ref_any x w).mono fun _ _ ⟨he, hw⟩ => ⟨he, hw.symm⟩

def Six (w0 w : World) : Prop := ∀ k, k < 6 → ∃ x : Int, w.cell? ⟨w0.heap.size, k, none⟩ = some (.int .i64 x)

theorem six_new (w : World) (a b c d e f : Int) : Six w (w.alloc (.cells #[.int .i64 a, .int .i64 b, .int .i64 c, .int .i64 d, .int .i64 e, .int .i64 f] 3)) := by
  intro k hk
  rw [cell_of_row _ _ _ _ _ _ (heap_alloc_new _ _)]
  rcases (by omega : k = 0 ∨ k = 1 ∨ k = 2 ∨ k = 3 ∨ k = 4 ∨ k = 5) with rfl | rfl | rfl | rfl | rfl | rfl <;> exact ⟨_, rfl⟩

set_option maxRecDepth 100000 in
set_option maxHeartbeats 800000 in
theorem walk (a0 : Int) (w : World) :
    Calls Try.prog 3 #[.int .i64 a0] w fun e w' => e = .returned (.bool true) ∧ Below w.heap.size w w' := by
  have h1 := and_255 a0
  have h2 := and_65535 a0
  have h3 := and_1073741823 a0
  have h4 := and_31 a0
  have h5 := and_1 a0
  have hb3 : 0 ≤ a0 % 1073741824 ∧ a0 % 1073741824 ≤ 1073741823 := by omega
  have hb5 : 0 ≤ a0 % 2 ∧ a0 % 2 ≤ 1 := by omega
  obtain ⟨K, hK⟩ : ∃ K : Nat, a0 % 32 = (K : Int) := ⟨(a0 % 32).toNat, by omega⟩
  have hk31 : (K : Int) ≤ 31 := by omega
  rw [hK] at h4
  clear hK
  have hp : (2 : Int) ^ K ≤ 2147483648 ∧ (0 : Int) ≤ 2 ^ K := by
    have e : ((2 : Int) ^ K) = ((2 ^ K : Nat) : Int) := by simp
    have hh : 2 ^ K ≤ 2 ^ 31 := Nat.pow_le_pow_right (by omega) (by omega)
    rw [e]
    exact ⟨Int.ofNat_le.2 (Nat.le_trans hh (by decide)), Int.natCast_nonneg _⟩
  obtain ⟨hp1, hp2⟩ := hp
  obtain ⟨hq1, hq2⟩ := hb3
  obtain ⟨hq3, hq4⟩ := hb5
  generalize a0 % 256 = A at *
  generalize a0 % 65536 = B at *
  generalize a0 % 1073741824 = C at *
  generalize a0 % 2 = D at *
  have haw := awake_any
  have HAW := Lib.hid haw
  clear haw
  go_enter Try.func3, Try.ntmps3
  go_wp2
  clear h1 h2 h3 h4 h5
  go_loopw [4] (fun i wr => ∃ k : Nat, k ≤ 6 ∧ i = .int .i64 k ∧ Six w wr ∧ Below w.heap.size w wr) (fun i _ => 6 - (intOf i).toNat)
  case atStart => exact ⟨0, by omega, rfl, six_new _ _ _ _ _ _ _, (Below.refl _ _).alloc (Nat.le_refl _) _⟩
  case round =>
    obtain ⟨k, hk, rfl, hs, hbl⟩ := hrel
    have HS := Lib.hid hs
    have HBL := Lib.hid hbl
    clear hs hbl
    by_cases hlt : k < 6
    · obtain ⟨x, hx⟩ := HS.out k hlt
      go_wp2
      go_quiet (first
        | (go_at_call 13; exact Calls.quiet_of_same (log_same _ _))
        | (go_at_call 14; exact Calls.quiet_of_same (ref_same _ _)))
      go_wp2
      exact ⟨⟨k + 1, by omega, by go_num, fun j hj => HS.out j hj, HBL.out.trans ⟨rfl, rfl, rfl, Nat.le_refl _, fun _ _ => rfl⟩⟩, by simp [intOf]; omega⟩
    · obtain rfl : k = 6 := by omega
      go_wp2_with (go_at_call 15; refine (HAW.out _).mono ?_; rintro e w' ⟨rfl, hb⟩; have HB := Lib.hid hb; clear hb)
      go_ret
      exact ⟨rfl, HBL.out.trans (HB.out.mono HBL.out.size)⟩

/-! ### THE ROW's STEP: WRITTEN OUT: LEAVE IT -/
set_option maxRecDepth 100000 in
theorem lifted (os : Os) (started : os.Started) (H : Type) (enc : TypeId × Value → H) :
    ReturnsInHanded {} Try.checked os 3 .any (Rows.entropyLogsSpec.pre6 enc Try.prog Try.f3 Rows.entropyLogsRow.domain false) (Rows.entropyLogsSpec.post enc Try.prog Try.f3 false true false false) := by
  refine returnsInHanded_of_change (C := Try.checked) own started (by kernel_rfl) Try.func3
    (ChangeSpec.witness6 (enc := enc) (C := Try.checked) false ⟨#[], #[.int .i64 0], []⟩ 8 (by kernel_rfl) (by kernel_rfl) (by kernel_rfl) (by kernel_rfl)) ?_
  intro W base args ds gs before hval0 hW hcnd _
  have hval : ∀ (j : Nat) t v, Try.f3.params[j]? = some t → args[j]? = some v → Value.okWide Try.prog W .any base t v := hval0
  have hW' := hW
  obtain ⟨p, q, hA0, hV, rfl, hfz, hnd⟩ := hW
  have hA : DataW.TrodAll enc Try.prog W 0 (fun _ => true) true Try.f3.params.toList args.toList ds p := hA0
  rw [Try.params3] at hA hval
  obtain ⟨v0, vs0, d0, ds0, p0, q0, hargs, rfl, rfl, h0, r0⟩ := trodAll_cons hA
  obtain ⟨rfl, rfl, rfl⟩ := trodAll_nil r0
  obtain rfl : args = #[v0] := by cases args; simp_all
  obtain ⟨rfl, rfl⟩ := trodVars_none hV
  obtain ⟨a0, rfl, rfl, rfl, w0⟩ := open_int Try.underlying3 (hval 0 3 v0 rfl rfl) h0
  clear hA0 hval0
  refine (walk a0 W).mono fun e W' ⟨he, bel⟩ => ?_
  subst he
  exact ⟨_, rfl, _, _, _, [], _, [], hW', trodAll_mk1 (shut_bool Try.underlying4 _), (trodAll_cons_mk (shut_int Try.underlying3 w0) trodAll_mk0), rfl, bel.frame _, fun h => by cases h⟩

theorem over : Rows.entropyLogsRow.holds Try.pinned (OpenSpec.ofChange Rows.entropyLogsSpec) :=
  OpenClaim.holds_of_wide 3 Try.f3 rfl rfl rfl rfl rfl rfl rfl ⟨rfl, rfl, rfl, rfl, rfl⟩ rfl rfl rfl rfl rfl (by kernel_rfl) Try.func3 (by kernel_rfl)
    (of_decide_eq_true (by kernel_rfl)) (by unfold Func.isWrapper; first | (rw [if_pos (by decide +kernel)]; kernel_rfl) | (rw [if_neg (by decide +kernel)]; exact ⟨rfl, rfl⟩))
    (fun os started H enc _ => lifted os started H enc)

/-- ████ THE STATEMENT ████ -/
theorem proved : Rows.EntropyLogsSaid :=
  over
#print axioms proved
end Go.Proofs.Ytidpkkekoldkgaa.entropyLogs
