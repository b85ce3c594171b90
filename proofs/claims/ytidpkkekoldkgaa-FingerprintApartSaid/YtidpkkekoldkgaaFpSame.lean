/- The contracts of Same and of its specification. -/
import Derived.Test.YtidpkkekoldkgaaFpRef
namespace Go.Proofs.Ytidpkkekoldkgaa.Fp
open Go.RowKit
open Go.Proofs.Ytidpkkekoldkgaa.Ent (Bytes)
set_option linter.unusedVariables false

set_option maxRecDepth 100000 in
set_option maxHeartbeats 1000000 in
theorem same_any (key kind : Int) (A B : Option Addr) (n c m d : Nat) (xs ys : List Nat) (w : World) (hx : Bytes w A n xs) (hy : Bytes w B m ys) (hnc : n ≤ c) (hmd : m ≤ d) (hn : n ≤ 65536) (hm : m ≤ 65536) :
    Calls Try.prog 31 #[.int .u64 key, .int .i64 kind, .slice A n c, .slice B m d] w fun e w' => e = .returned (.bool (ofI key kind xs == ofI key kind ys)) ∧ Below w.heap.size w w' := by
  have HX := Lib.hid (of_any key kind A n c xs w hx hnc)
  have HY := Lib.hid hy
  clear hx hy
  have hof := fun w' (h : Bytes w' B m ys) => of_any key kind B m d ys w' h hmd
  have HOF := Lib.hid hof
  clear hof
  generalize ofI key kind xs = X at *
  generalize ofI key kind ys = Y at *
  have e1 : decide ((n : Int) ≤ 65536) = true := by rw [decide_eq_true_iff]; omega
  have e2 : decide ((m : Int) ≤ 65536) = true := by rw [decide_eq_true_iff]; omega
  go_enter Try.func31, Try.ntmps31
  go_wp2_with (first
    | (go_at_call 26; refine HX.out.mono ?_; clear HX; rintro e w1 ⟨rfl, hb1⟩; have HB1 := Lib.hid hb1; clear hb1)
    | (go_at_call 26; refine (HOF.out _ (HY.out.below HB1.out)).mono ?_; clear HOF; rintro e w2 ⟨rfl, hb2⟩; have HB2 := Lib.hid hb2; clear hb2))
  go_ret
  exact ⟨rfl, HB1.out.trans (HB2.out.mono HB1.out.size)⟩

set_option maxRecDepth 100000 in
set_option maxHeartbeats 1000000 in
theorem refsame_any (key kind : Int) (A B : Option Addr) (n c m d : Nat) (xs ys : List Nat) (w : World) (hx : Bytes w A n xs) (hy : Bytes w B m ys) (hn : n ≤ 65536) (hm : m ≤ 65536) :
    Calls Try.prog 32 #[.int .u64 key, .int .i64 kind, .slice A n c, .slice B m d] w fun e w' => e = .returned (.bool (ofI key kind xs == ofI key kind ys)) ∧ w' = w := by
  have HX := Lib.hid (refof_any key kind A n c xs w hx hn)
  have HY := Lib.hid (refof_any key kind B m d ys w hy hm)
  clear hx hy
  generalize ofI key kind xs = X at *
  generalize ofI key kind ys = Y at *
  have e1 : decide ((n : Int) ≤ 65536) = true := by rw [decide_eq_true_iff]; omega
  have e2 : decide ((m : Int) ≤ 65536) = true := by rw [decide_eq_true_iff]; omega
  go_enter Try.func32, Try.ntmps32
  go_wp2_with (first
    | (go_at_call 27; refine HX.out.mono ?_; clear HX; rintro e w1 ⟨rfl, rfl⟩)
    | (go_at_call 27; refine HY.out.mono ?_; clear HY; rintro e w1 ⟨rfl, rfl⟩))
  go_ret
  exact ⟨rfl, rfl⟩

end Go.Proofs.Ytidpkkekoldkgaa.Fp
