import Derived.Test.YtfdmneceecaocaaCoJ
namespace Go.Proofs.Ytfdmneceecaocaa.Di
open Go.RowKit
open Go.Proofs.Ytfdmneceecaocaa.Tp
set_option linter.unusedVariables false
set_option linter.unusedSimpArgs false

/-- The reference finds an estate valid. -/
def VaY (a : Es) (v : Ve) (w : World) : Prop := ∀ w', Below w.heap.size w w' → Calls Try.prog 49 #[.agg (ge a v)] w' fun e w2 => e = .returned (.bool true) ∧ Below w'.heap.size w' w2
theorem VaY.below {a : Es} {v : Ve} {w w' : World} (h : VaY a v w) (hb : Below w.heap.size w w') : VaY a v w' := fun w2 h2 => h w2 (hb.trans (h2.mono hb.size))
set_option maxRecDepth 100000 in
set_option maxHeartbeats 400000 in
theorem right_yes (a : Es) (v : Ve) (c : Int) (w : World) (h : VaY a v w) (hc : 0 ≤ c ∧ c < 64) :
    Calls Try.prog 63 #[.agg (ge a v), .int .i64 c] w fun e w' => e = .returned (.bool true) ∧ Below w.heap.size w w' := by
  have HB0 := Lib.hid (box_below w (.cells (ge a v) 25))
  have HR0 := heap_alloc_new w (.cells (ge a v) 25)
  obtain ⟨c0, c1⟩ := geCells HR0
  have HCK := Lib.hid (h _ HB0.out)
  have d1 : decide ((0 : Int) ≤ c) = true := decide_eq_true hc.1
  have d2 : decide (c ≤ 63) = true := decide_eq_true (by omega)
  have HF := Lib.hid (show (#[.int .i64 a.n, .slice v.A a.e.length v.c] : Array Value) = ge a v from rfl)
  clear h hc HR0
  go_enter Try.func63, Try.ntmps63
  go_wp2_with (go_at_call 49; rw [HF.out]; refine HCK.out.mono ?_; rintro e w1 ⟨rfl, hb1⟩; have HB1 := Lib.hid (HB0.out.trans (hb1.mono HB0.out.size)); clear hb1 c0 c1)
  go_ret
  exact ⟨by first | rfl | simp, HB1.out⟩
set_option maxRecDepth 100000 in
set_option maxHeartbeats 400000 in
theorem place_yes (a : Es) (v : Ve) (p : Int) (w : World) (h : VaY a v w) (hn : 1 ≤ a.n ∧ a.n ≤ 16) (hp : 0 ≤ p ∧ p < a.n) :
    Calls Try.prog 53 #[.agg (ge a v), .int .i64 p] w fun e w' => e = .returned (.bool true) ∧ Below w.heap.size w w' := by
  have HB0 := Lib.hid (box_below w (.cells (ge a v) 25))
  have HR0 := Lib.hid (heap_alloc_new w (.cells (ge a v) 25))
  obtain ⟨c0, c1⟩ := geCells HR0.out
  have HCK := Lib.hid (h _ HB0.out)
  have hw : IntKind.i64.wrap (a.n - 1) = a.n - 1 := IntWalk.i64_in _ (by omega)
  have HF := Lib.hid (show (#[.int .i64 a.n, .slice v.A a.e.length v.c] : Array Value) = ge a v from rfl)
  clear h
  go_enter Try.func53, Try.ntmps53
  go_wp2_with (first
    | (go_at_call 49; rw [HF.out]; refine HCK.out.mono ?_; rintro e w1 ⟨rfl, hb1⟩; have HB1 := Lib.hid (HB0.out.trans (hb1.mono HB0.out.size)); have M1 := Lib.hid ((hb1.block _ (row_lt HR0.out)).trans HR0.out); clear hb1 c0 c1; obtain ⟨c0, c1⟩ := geCells M1.out)
    | (go_at_call 66; (with_reducible refine (in_yes (by omega) (by omega) _).mono ?_); rintro e wq ⟨rfl, rfl⟩))
  go_ret
  exact ⟨by first | rfl | simp, HB1.out⟩
/-- The chapter's example. -/
def exC : Es := ⟨2, [⟨1, 5, 0, 0, 0, 3, 0⟩, ⟨2, 7, 1, 0, 0, 0, 0⟩, ⟨3, 6, 0, 0, 0, 3, 0⟩]⟩
theorem exC_ok : Eok exC := by
  refine ⟨by decide, by decide, by decide, fun j hj => ?_, fun j hj => ?_⟩
  · have hj : j < 3 := hj
    rcases (by omega : j = 0 ∨ j = 1 ∨ j = 2) with rfl | rfl | rfl
    · exact ⟨by decide, by decide, by decide, by decide, .inr (.inr (.inr (.inl ⟨.inl rfl, by decide, by decide, rfl, rfl, rfl⟩)))⟩
    · exact ⟨by decide, by decide, by decide, by decide, .inr (.inr (.inr (.inr ⟨rfl, by decide, by decide, by decide, rfl, rfl, rfl⟩)))⟩
    · exact ⟨by decide, by decide, by decide, by decide, .inr (.inr (.inr (.inl ⟨.inr rfl, by decide, by decide, rfl, rfl, rfl⟩)))⟩
  · have hj : j + 1 < 3 := hj
    rcases (by omega : j = 0 ∨ j = 1) with rfl | rfl <;> decide
theorem exC_way : wyA exC.e 3 5 1 = [0, 1] := by decide
theorem exC_where : idx (wB exC 3 5) 2 = [1] := by decide
theorem exC_stays : sA (wq exC 3 [1, 2, 3]) [1, 2, 3] 2 = [⟨0, 1, 3⟩, ⟨1, 2, 1099511627777⟩] := rfl
theorem exC_times : tms exC = [1, 2, 3] := by rw [tms_ok exC_ok]; decide

end Go.Proofs.Ytfdmneceecaocaa.Di
