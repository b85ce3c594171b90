import Derived.Test.YtfdmneceecaocaaCoB
namespace Go.Proofs.Ytfdmneceecaocaa.Di
open Go.RowKit
open Go.Proofs.Ytfdmneceecaocaa.Tp
set_option linter.unusedVariables false

set_option maxRecDepth 100000 in
set_option maxHeartbeats 2000000 in
theorem holds_any (a : Es) (v : Ve) (P : Nat) (t : Int) (n : Nat) (w : World) (h : EL w 0 a v) (hok : Eok a) (hn : a.n = (n : Int)) (hP : P < n) :
    Calls Try.prog 33 #[.agg (ge a v), .int .i64 (P : Int), .int .i64 t] w (SmPost (fun c => wB a (c : Int) t P) 64 w) := by
  have hn16 := hok.n16
  have hn6 : n ≤ 16 := by omega
  have HB0 := Lib.hid (box_below w (.cells (ge a v) 25))
  have HR0 := Lib.hid (heap_alloc_new w (.cells (ge a v) 25))
  obtain ⟨c0, c1⟩ := geCells HR0.out
  have HCK := Lib.hid (exc_yes a v (P : Int) _ (Row.below h HB0.out) ⟨hok, by omega, by omega⟩)
  have HWY := Lib.hid (fun (c : Int) w' (hb : Below w.heap.size w w') => ways_any a v c t n w' (Row.below h hb) hok hn)
  have HF := Lib.hid (show (#[.int .i64 a.n, .slice v.A a.e.length v.c] : Array Value) = ge a v from rfl)
  have HWT := Lib.hid (fun (c : Nat) (hp : 0 < (wyA a.e (c : Int) t (P : Int)).length) => (wB_pos hp : wB a (c : Int) t P = true))
  have HWF := Lib.hid (fun (c : Nat) (hp : (wyA a.e (c : Int) t (P : Int)).length = 0) => (wB_zero hp : wB a (c : Int) t P = false))
  obtain ⟨i0, hi1, hz0, hz1, hz2⟩ := info_parts zinfo3
  have HI := Lib.hid hi1
  have HI0 := Lib.hid hz0
  have HI1 := Lib.hid hz1
  have HI2 := Lib.hid hz2
  have P0 : (0 : Int) ≤ (P : Int) := by omega
  have P1 : (P : Int) < (n : Int) := by omega
  clear h hok hn hi1 hz0 hz1 hz2
  go_enter Try.func33, Try.ntmps33
  go_wp2_with (go_at_call 58; rw [HF.out]; refine HCK.out.mono ?_; rintro e w1 ⟨rfl, hb1⟩; have HB1 := Lib.hid (HB0.out.trans (hb1.mono HB0.out.size)); have M1 := Lib.hid ((hb1.block _ (row_lt HR0.out)).trans HR0.out); clear hb1 c0 c1; obtain ⟨c0, c1⟩ := geCells M1.out)
  obtain ⟨q, hq⟩ : ∃ q : Nat → Bool, (fun c : Nat => wB a (c : Int) t P) = q := ⟨_, rfl⟩
  have HQT := Lib.hid (fun (c : Nat) (hp : 0 < (wyA a.e (c : Int) t (P : Int)).length) => (by rw [← hq]; exact HWT.out c hp : q c = true))
  have HQF := Lib.hid (fun (c : Nat) (hp : (wyA a.e (c : Int) t (P : Int)).length = 0) => (by rw [← hq]; exact HWF.out c hp : q c = false))
  have HQ := Lib.hid hq
  clear hq c0 c1
  go_loopw [7, 13] (fun ov ii wr => ∃ (k : Nat) (A' : Option Addr) (c' : Nat), k ≤ 64 ∧ ov = .slice A' (cnt q k) c' ∧ ii = .int .i64 (k : Int) ∧ wr.ownsRow w1.heap.size 3 1 (.slice A' (cnt q k) c') (cnt q k) (iv (idx q k)) ∧ Below w1.heap.size w1 wr) (fun _ ii _ => 64 - (intOf ii).toNat)
  case atStart => exact ⟨0, none, 0, by omega, rfl, rfl, own_nil _ _ _ _, Below.refl _ _⟩
  case round =>
    obtain ⟨k, A', c', hk, rfl, rfl, hown, hbl⟩ := hrel
    have HO := Lib.hid hown
    have HBL := Lib.hid hbl
    have hcn := cnt_le q k
    have hsz := hbl.size
    have MR := Lib.hid ((hbl.block _ (row_lt M1.out)).trans M1.out)
    obtain ⟨c0, c1⟩ := geCells MR.out
    clear hown hbl
    by_cases hlt : k < 64
    · have d64 : decide ((k : Int) < 64) = true := decide_eq_true (by omega)
      obtain ⟨lf, hlf⟩ : ∃ lf, (wyA a.e (k : Int) t (P : Int)).length = lf := ⟨_, rfl⟩
      have HLF := Lib.hid hlf
      have HWK := Lib.hid (HWY.out (k : Int) wr (HB1.out.trans (HBL.out.mono HB1.out.size)))
      by_cases hl : lf = 0
      · have hqk := HQF.out k (hlf.trans hl)
        have HX := Lib.hid (idx_f hqk)
        have HC := Lib.hid (cnt_f hqk)
        clear hqk hlf
        subst hl
        go_wp2_with (go_at_call 59; rw [HF.out]; refine HWK.out.mono ?_; rintro e w2 ⟨G, hh, cc, rfl, hwo, hb2⟩; have B2 := Lib.hid (HBL.out.trans (hb2.mono HBL.out.size)); have O2 := Lib.hid (own_below HO.out hb2); have cz := (hwo.cell hP).1; replace cz : World.cell? _ _ = some (Value.slice (hh P) (wyA a.e (k : Int) t (P : Int)).length (cc P)) := cz; rw [HLF.out] at cz; clear hwo hb2 c0 c1)
        exact ⟨⟨k + 1, A', c', by omega, by rw [HC.out], by go_num, by rw [HC.out, HX.out]; exact O2.out, B2.out⟩, by simp [intOf]; omega⟩
      · have hqk := HQT.out k (by rw [hlf]; omega)
        have HX := Lib.hid (idx_t hqk)
        have HC := Lib.hid (cnt_t hqk)
        have HIS := Lib.hid (iv_snoc (idx q k) k)
        have hl0 : 0 < lf := by omega
        clear hqk hl hlf
        go_wp2_with (first
          | (go_at_call 59; rw [HF.out]; refine HWK.out.mono ?_; rintro e w2 ⟨G, hh, cc, rfl, hwo, hb2⟩; have B2 := Lib.hid (HBL.out.trans (hb2.mono HBL.out.size)); have O2 := Lib.hid (own_below HO.out hb2); have cz := (hwo.cell hP).1; replace cz : World.cell? _ _ = some (Value.slice (hh P) (wyA a.e (k : Int) t (P : Int)).length (cc P)) := cz; rw [HLF.out] at cz; have hs2 := B2.out.size; clear hwo hb2 c0 c1)
          | (at_builtin; refine wpList_append_own _ rfl (.tmp 25) (.tmp 27) 22 rfl w1.heap.size 3 i0 (.int .i64 0) 1 8 Try.underlying22 HI.out HI0.out HI1.out HI2.out rfl (by decide) _ (cnt q k) (iv (idx q k)) rfl (O2.out.alloc _) ⟨w2.heap.size, 0, none⟩ 1 1 [.int .i64 (k : Int)] rfl rfl (World.news_of_block (heap_alloc_new w2 _)) (by simp [Value.oneCell']) (by unfold maxLen; omega) (by omega) (by simp; omega) ?_; intro v' w6 hown6 hgr _; obtain ⟨A6, c6, rfl⟩ := own_form hown6; have O6 := Lib.hid hown6; have B6 := Lib.hid ((B2.out.trans ((box_below _ _).mono B2.out.size)).grown hgr (by simp; omega) (fun g e => (O2.out.lt g e).1)); clear hown6 hgr))
        exact ⟨⟨k + 1, A6, c6, by omega, by rw [HC.out], by go_num, by rw [HC.out, HX.out, HIS.out]; exact O6.out, B6.out⟩, by simp [intOf]; omega⟩
    · obtain rfl : k = 64 := by omega
      have d64 : decide (((64 : Nat) : Int) < 64) = false := by decide
      go_wp2_with fail
      go_ret
      rw [HQ.out]
      exact ⟨A', c', by first | rfl | simp, own_base HO.out HB1.out.size, HB1.out.trans (HBL.out.mono HB1.out.size)⟩

end Go.Proofs.Ytfdmneceecaocaa.Di
