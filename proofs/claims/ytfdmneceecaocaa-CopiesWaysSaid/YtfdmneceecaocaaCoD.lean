import Derived.Test.YtfdmneceecaocaaCoB
namespace Go.Proofs.Ytfdmneceecaocaa.Di
open Go.RowKit
open Go.Proofs.Ytfdmneceecaocaa.Tp
set_option linter.unusedVariables false

def WaPost (a : Es) (c t : Int) (P : Nat) (w : World) (e : Ending) (w' : World) : Prop := ∃ A cc, e = .returned (.tuple #[.slice A (wyA a.e c t (P : Int)).length cc, .bool (wB a c t P)]) ∧ w'.ownsRow w.heap.size 3 1 (.slice A (wyA a.e c t (P : Int)).length cc) (wyA a.e c t (P : Int)).length (iv (wyA a.e c t (P : Int))) ∧ Below w.heap.size w w'
set_option maxRecDepth 100000 in
set_option maxHeartbeats 1000000 in
theorem way_any (a : Es) (v : Ve) (c t : Int) (P n : Nat) (w : World) (h : EL w 0 a v) (hok : Eok a) (hn : a.n = (n : Int)) (hP : P < n) (hc : 0 ≤ c ∧ c < 64) :
    Calls Try.prog 40 #[.agg (ge a v), .int .i64 c, .int .i64 (P : Int), .int .i64 t] w (WaPost a c t P w) := by
  have HB0 := Lib.hid (box_below w (.cells (ge a v) 25))
  have HR0 := Lib.hid (heap_alloc_new w (.cells (ge a v) 25))
  obtain ⟨c0, c1⟩ := geCells HR0.out
  have HCK := Lib.hid (exc_yes a v (P : Int) _ (Row.below h HB0.out) ⟨hok, by omega, by omega⟩)
  have HWY := Lib.hid (fun w' (hb : Below w.heap.size w w') => ways_any a v c t n w' (Row.below h hb) hok hn)
  have HCY := Lib.hid (fun w' => content_yes hc w')
  have HF := Lib.hid (show (#[.int .i64 a.n, .slice v.A a.e.length v.c] : Array Value) = ge a v from rfl)
  have HWT := Lib.hid (fun (hp : 0 < (wyA a.e c t (P : Int)).length) => (wB_pos hp : wB a c t P = true))
  have HWF := Lib.hid (fun (hp : (wyA a.e c t (P : Int)).length = 0) => (wB_zero hp : wB a c t P = false))
  have P0 : (0 : Int) ≤ (P : Int) := by omega
  have P1 : (P : Int) < (n : Int) := by omega
  clear h hok hn hc
  unfold WaPost
  generalize hL : wyA a.e c t (P : Int) = L at *
  generalize wB a c t P = q at *
  obtain ⟨lf, hlf⟩ : ∃ lf, L.length = lf := ⟨_, rfl⟩
  have HLF := Lib.hid hlf
  have HL := Lib.hid hL
  have hq : q = decide (0 < lf) := by
    by_cases e : lf = 0
    · rw [HWF.out (hlf.trans e), e]; rfl
    · rw [HWT.out (by omega), decide_eq_true (by omega)]
  rw [hlf]
  subst hq
  clear hlf hL HWT HWF
  go_enter Try.func40, Try.ntmps40
  go_wp2_with (first
    | (go_at_call 58; rw [HF.out]; refine HCK.out.mono ?_; rintro e w1 ⟨rfl, hb1⟩; have HB1 := Lib.hid (HB0.out.trans (hb1.mono HB0.out.size)); have M1 := Lib.hid ((hb1.block _ (row_lt HR0.out)).trans HR0.out); clear hb1 c0 c1; obtain ⟨c0, c1⟩ := geCells M1.out)
    | (go_at_call 62; (with_reducible refine (HCY.out _).mono ?_); rintro e wq ⟨rfl, rfl⟩)
    | (go_at_call 59; rw [HF.out]; refine (HWY.out _ HB1.out).mono ?_; rintro e w2 ⟨G, hh, cc, rfl, hwo, hb2⟩; have B2 := Lib.hid (HB1.out.trans (hb2.mono HB1.out.size)); have cz := (hwo.cell hP).1; replace cz : World.cell? _ _ = some (Value.slice (hh P) (wyA a.e c t (P : Int)).length (cc P)) := cz; have hro := hwo.row P hP; replace hro : World.ownsRow _ _ _ _ (Value.slice (hh P) (wyA a.e c t (P : Int)).length (cc P)) (wyA a.e c t (P : Int)).length (iv (wyA a.e c t (P : Int))) := hro; rw [HL.out, HLF.out] at cz hro; have RO := Lib.hid (own_base hro HB1.out.size); clear hwo hb2 c0 c1 hro))
  go_ret2
  exact ⟨hh P, cc P, by first | rfl | simp, RO.out, B2.out⟩

end Go.Proofs.Ytfdmneceecaocaa.Di
