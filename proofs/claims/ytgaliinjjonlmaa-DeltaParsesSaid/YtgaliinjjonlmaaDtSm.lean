import Derived.Test.YtgaliinjjonlmaaDtPs
import Derived.BigQuiet
namespace Go.Proofs.Ytgaliinjjonlmaa.Dt
open Go.RowKit
open Go.Proofs.Ytgaliinjjonlmaa.Tp
set_option linter.unusedVariables false

set_option maxRecDepth 100000 in
set_option maxHeartbeats 2000000 in
theorem same_any (A B : Option Addr) (n ca cb : Nat) (os : List O) (vs us : List Value) (w : World) (h1 : OLies w A n os vs) (h2 : OLies w B n os us) (hn : n ≤ 1000) :
    Calls Try.prog 31 #[.slice A n ca, .slice B n cb] w fun e w' => e = .returned (.bool true) ∧ Below w.heap.size w w' := by
  have H1 := Lib.hid h1
  have H2 := Lib.hid h2
  clear h1 h2
  go_enter Try.func31, Try.ntmps31
  go_wp2_with fail
  go_loopw [5] (fun ii wr => ∃ i : Nat, i ≤ n ∧ ii = .int .i64 i ∧ Below w.heap.size w wr) (fun ii _ => n - (intOf ii).toNat)
  case atStart => exact ⟨0, by omega, rfl, Below.refl _ _⟩
  case round =>
    obtain ⟨i, hi, rfl, hbl⟩ := hrel
    have HBL := Lib.hid hbl
    by_cases hlt : i < n
    · obtain ⟨b, off, rfl, hbk, hc⟩ := (H1.out.below hbl).mem (by omega)
      obtain ⟨b2, off2, rfl, hbk2, hc2⟩ := (H2.out.below hbl).mem (by omega)
      obtain ⟨c0, c1, c2⟩ := hc i hlt
      obtain ⟨d0, d1, d2⟩ := hc2 i hlt
      have q1 : ∀ m, (convert 23 9 (vs.getD i undef)).run Try.prog (wr.drewN m) = .ok (.string (strB (os.getD i o0).d)) (wr.drewN m) := fun m => conv_by ((H1.out.by_ i hlt).below (below_drewN' hbl m))
      have q2 : ∀ m, (convert 23 9 (us.getD i undef)).run Try.prog (wr.drewN m) = .ok (.string (strB (os.getD i o0).d)) (wr.drewN m) := fun m => conv_by ((H2.out.by_ i hlt).below (below_drewN' hbl m))
      have p0 : (0 : Int) ≤ (i : Int) := by omega
      have p1 : (i : Int) < (n : Int) := by omega
      have p2 : decide ((i : Int) < (n : Int)) = true := decide_eq_true p1
      clear hc hc2 hbl hbk hbk2
      generalize strB (os.getD i o0).d = s at *
      generalize os.getD i o0 = o at *
      generalize vs.getD i undef = v at *
      generalize us.getD i undef = u at *
      obtain ⟨F, S, d⟩ := o
      go_wp2_with fail
      go_quiet (fail)
      go_wp2
      exact ⟨⟨i + 1, by omega, by go_num, below_drewN' HBL.out _⟩, by simp [intOf]; omega⟩
    · obtain rfl : n = i := by omega
      go_wp2
      go_ret
      exact ⟨rfl, HBL.out⟩

end Go.Proofs.Ytgaliinjjonlmaa.Dt
