import Derived.Test.YtgknfkmojhganaaGreatAcC
namespace Go.Proofs.YtgknfkmojhganaaGreat.Di
open Go.RowKit Go.Maps
open Go.Proofs.YtgknfkmojhganaaGreat.Tp
set_option linter.unusedVariables false

theorem zero3 (w : World) : (zeroValue 3).run Tryz.prog w = .ok (.int .i64 0) w := by kernel_rfl
set_option maxRecDepth 100000 in
set_option maxHeartbeats 1000000 in
theorem grant_yes (a : Es) (v : Ve) (p r t : Int) (w : World) (h : EL w 0 a v) (he : exP a p) (hw : (Lit.int .i64 r).wf = true) :
    Calls Tryz.prog 50 #[.agg (ge a v), .int .i64 p, .int .i64 r, .int .i64 t] w fun e w' => e = .returned (.tuple #[.int .i64 (on (grA a.e p t r)), .bool (grA a.e p t r).isSome]) ∧ Below w.heap.size w w' := by
  have HB0 := Lib.hid (box_below w (.cells (ge a v) 28))
  have HR0 := Lib.hid (heap_alloc_new w (.cells (ge a v) 28))
  obtain ⟨c0, c1⟩ := geCells HR0.out
  have HF := Lib.hid (show (#[.int .i64 a.n, .slice v.A a.e.length v.c] : Array Value) = ge a v from rfl)
  have HX := Lib.hid (ex_yes a v p _ (Row.below h HB0.out) he)
  have HG := Lib.hid (fun w' (hb : Below w.heap.size w w') => grants_any a v p t w' (Row.below h hb) he.1)
  have hkey : keyOf Tryz.prog 3 (.int .i64 r) = some (.int .i64 r) := keyOf_int_mk Tryz.underlying3 hw
  have HKEY := Lib.hid hkey
  have HH := Lib.hid (gm_has a.e p t r a.e.length)
  have HA := Lib.hid (gm_at a.e p t r a.e.length)
  have HV := Lib.hid (show grA a.e p t r = gr a.e p t r a.e.length from rfl)
  clear h he hw hkey
  go_enter Tryz.func50, Tryz.ntmps50
  go_wp2_with (first
    | (go_at_call 87; rw [HF.out]; refine HX.out.mono ?_; rintro e w1 ⟨rfl, hb1⟩; have HB1 := Lib.hid (HB0.out.trans (hb1.mono HB0.out.size)); have M1 := Lib.hid ((hb1.block _ (row_lt HR0.out)).trans HR0.out); clear hb1 c0 c1; obtain ⟨c0, c1⟩ := geCells M1.out)
    | (go_at_call 94; rw [HF.out]; refine (HG.out _ HB1.out).mono ?_; rintro e w2 ⟨b, rfl, hown, hbb, hb2⟩; have HB2 := Lib.hid (HB1.out.trans (hb2.mono HB1.out.size)); have HO := Lib.hid hown; clear hown hb2 hbb c0 c1)
    | (at_lookup; refine wpList_lookup_own_ok_int _ rfl _ _ 115 rfl 3 3 .i64 law3 Tryz.underlying115 Tryz.underlying3 (zero3 _) b 120 _ rfl HO.out _ _ rfl HKEY.out ?_; intro c hat hwc; rw [HA.out] at hat; have hc : on (gr a.e p t r a.e.length) = c := (by injection hat with h1; injection h1); rw [HH.out, ← hc]; clear hat hwc hc))
  go_ret2
  exact ⟨by rw [HV.out]; first | rfl | simp, HB2.out⟩
set_option maxRecDepth 100000 in
set_option maxHeartbeats 1000000 in
theorem grant_no (a : Es) (v : Ve) (p r t : Int) (w : World) (h : EL w 0 a v) (he : ¬ exP a p) :
    Calls Tryz.prog 50 #[.agg (ge a v), .int .i64 p, .int .i64 r, .int .i64 t] w fun e w' => e = .returned (.tuple #[.int .i64 0, .bool false]) ∧ Below w.heap.size w w' := by
  have HB0 := Lib.hid (box_below w (.cells (ge a v) 28))
  have HR0 := Lib.hid (heap_alloc_new w (.cells (ge a v) 28))
  obtain ⟨c0, c1⟩ := geCells HR0.out
  have HF := Lib.hid (show (#[.int .i64 a.n, .slice v.A a.e.length v.c] : Array Value) = ge a v from rfl)
  have HX := Lib.hid (ex_no a v p _ (Row.below h HB0.out) he)
  clear h he
  go_enter Tryz.func50, Tryz.ntmps50
  go_wp2_with (go_at_call 87; rw [HF.out]; refine HX.out.mono ?_; rintro e w1 ⟨rfl, hb1⟩; have HB1 := Lib.hid (HB0.out.trans (hb1.mono HB0.out.size)); clear hb1 c0 c1)
  go_ret2
  exact ⟨by first | rfl | simp, HB1.out⟩

end Go.Proofs.YtgknfkmojhganaaGreat.Di
