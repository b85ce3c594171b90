import Derived.Test.YtfdmneceecaocaaCoA
namespace Go.Proofs.Ytfdmneceecaocaa.Di
open Go.RowKit
open Go.Proofs.Ytfdmneceecaocaa.Tp
set_option linter.unusedVariables false

/-- Is a content in a place? -/
def wB (a : Es) (c t : Int) (p : Nat) : Bool := !(wyA a.e c t (p : Int)).isEmpty
theorem wB_pos {a : Es} {c t : Int} {p : Nat} (h : 0 < (wyA a.e c t (p : Int)).length) : wB a c t p = true := by
  unfold wB
  cases hw : wyA a.e c t (p : Int) with
  | nil => rw [hw] at h; simp at h
  | cons _ _ => rfl
theorem wB_zero {a : Es} {c t : Int} {p : Nat} (h : (wyA a.e c t (p : Int)).length = 0) : wB a c t p = false := by
  unfold wB
  rw [List.length_eq_zero_iff.1 h]
  rfl
theorem idx_t {q : Nat → Bool} {k : Nat} (h : q k = true) : idx q (k + 1) = idx q k ++ [k] := by rw [idx, if_pos h]
theorem idx_f {q : Nat → Bool} {k : Nat} (h : q k = false) : idx q (k + 1) = idx q k := by rw [idx, if_neg (by rw [h]; decide)]
theorem cnt_t {q : Nat → Bool} {k : Nat} (h : q k = true) : cnt q (k + 1) = cnt q k + 1 := by rw [← idx_len, ← idx_len, idx_t h, List.length_append]; rfl
theorem cnt_f {q : Nat → Bool} {k : Nat} (h : q k = false) : cnt q (k + 1) = cnt q k := by rw [← idx_len, ← idx_len, idx_f h]
set_option maxRecDepth 100000 in
set_option maxHeartbeats 400000 in
theorem content_yes {c : Int} (h : 0 ≤ c ∧ c < 64) (w : World) : Calls Try.prog 62 #[.int .i64 c] w fun e w' => e = .returned (.bool true) ∧ w' = w := by
  have d1 : decide ((0 : Int) ≤ c) = true := decide_eq_true h.1
  have d2 : decide (c < 64) = true := decide_eq_true h.2
  clear h
  go_enter Try.func62, Try.ntmps62
  go_wp2_with fail
  go_ret
  exact ⟨by first | rfl | simp, rfl⟩
set_option maxRecDepth 100000 in
set_option maxHeartbeats 400000 in
theorem exc_yes (a : Es) (v : Ve) (p : Int) (w : World) (h : EL w 0 a v) (he : exP a p) :
    Calls Try.prog 58 #[.agg (ge a v), .int .i64 p] w fun e w' => e = .returned (.bool true) ∧ Below w.heap.size w w' := by
  have HB0 := Lib.hid (box_below w (.cells (ge a v) 25))
  have HR0 := Lib.hid (heap_alloc_new w (.cells (ge a v) 25))
  obtain ⟨c0, c1⟩ := geCells HR0.out
  have hck := check_any a v _ (Row.below h HB0.out)
  rw [ck_ok he.1] at hck
  have HCK := Lib.hid hck
  have d1 : decide ((0 : Int) ≤ p) = true := decide_eq_true he.2.1
  have d2 : decide (p < a.n) = true := decide_eq_true he.2.2
  have HF := Lib.hid (show (#[.int .i64 a.n, .slice v.A a.e.length v.c] : Array Value) = ge a v from rfl)
  clear hck h he
  go_enter Try.func58, Try.ntmps58
  go_wp2_with (go_at_call 18; rw [HF.out]; refine HCK.out.mono ?_; rintro e w1 ⟨rfl, hb1⟩; have HB1 := Lib.hid (HB0.out.trans (hb1.mono HB0.out.size)); have M1 := Lib.hid ((hb1.block _ (row_lt HR0.out)).trans HR0.out); clear hb1 c0 c1; obtain ⟨c0, c1⟩ := geCells M1.out)
  go_ret
  exact ⟨by first | rfl | simp, HB1.out⟩
set_option maxRecDepth 100000 in
set_option maxHeartbeats 2000000 in
theorem where_any (a : Es) (v : Ve) (c t : Int) (n : Nat) (w : World) (h : EL w 0 a v) (hok : Eok a) (hn : a.n = (n : Int)) (hc : 0 ≤ c ∧ c < 64) :
    Calls Try.prog 35 #[.agg (ge a v), .int .i64 c, .int .i64 t] w (SmPost (wB a c t) n w) := by
  have hn16 := hok.n16
  have hn6 : n ≤ 16 := by omega
  have HB0 := Lib.hid (box_below w (.cells (ge a v) 25))
  have HR0 := Lib.hid (heap_alloc_new w (.cells (ge a v) 25))
  obtain ⟨c0, c1⟩ := geCells HR0.out
  have hck := check_any a v _ (Row.below h HB0.out)
  rw [ck_ok hok] at hck
  have HCK := Lib.hid hck
  have HWY := Lib.hid (fun w' (hb : Below w.heap.size w w') => ways_any a v c t n w' (Row.below h hb) hok hn)
  have HCY := Lib.hid (fun w' => content_yes hc w')
  have HF := Lib.hid (show (#[.int .i64 a.n, .slice v.A a.e.length v.c] : Array Value) = ge a v from rfl)
  have HWT := Lib.hid (fun p (hp : 0 < (wyA a.e c t ((p : Nat) : Int)).length) => wB_pos hp)
  have HWF := Lib.hid (fun p (hp : (wyA a.e c t ((p : Nat) : Int)).length = 0) => wB_zero hp)
  obtain ⟨i0, hi1, hz0, hz1, hz2⟩ := info_parts zinfo3
  have HI := Lib.hid hi1
  have HI0 := Lib.hid hz0
  have HI1 := Lib.hid hz1
  have HI2 := Lib.hid hz2
  clear hck h hok hc hn hi1 hz0 hz1 hz2
  go_enter Try.func35, Try.ntmps35
  go_wp2_with (first
    | (go_at_call 18; rw [HF.out]; refine HCK.out.mono ?_; rintro e w1 ⟨rfl, hb1⟩; have HB1 := Lib.hid (HB0.out.trans (hb1.mono HB0.out.size)); have M1 := Lib.hid ((hb1.block _ (row_lt HR0.out)).trans HR0.out); clear hb1 c0 c1; obtain ⟨c0, c1⟩ := geCells M1.out)
    | (go_at_call 62; (with_reducible refine (HCY.out _).mono ?_); rintro e wq ⟨rfl, rfl⟩)
    | (go_at_call 59; rw [HF.out]; refine (HWY.out _ HB1.out).mono ?_; rintro e w2 ⟨G, hh, cc, rfl, hwo, hb2⟩; have HWO := Lib.hid hwo; have HB2 := Lib.hid (HB1.out.trans (hb2.mono HB1.out.size)); clear hwo hb2 c0 c1))
  generalize hq : wB a c t = q at *
  clear hq
  go_loopw [7, 23] (fun ov ii wr => ∃ (k : Nat) (A' : Option Addr) (c' : Nat), k ≤ n ∧ ov = .slice A' (cnt q k) c' ∧ ii = .int .i64 (k : Int) ∧ wr.ownsRow w2.heap.size 3 1 (.slice A' (cnt q k) c') (cnt q k) (iv (idx q k)) ∧ Below w2.heap.size w2 wr) (fun _ ii _ => n - (intOf ii).toNat)
  case atStart => exact ⟨0, none, 0, by omega, rfl, rfl, own_nil _ _ _ _, Below.refl _ _⟩
  case round =>
    obtain ⟨k, A', c', hk, rfl, rfl, hown, hbl⟩ := hrel
    have HO := Lib.hid hown
    have HBL := Lib.hid hbl
    have hcn := cnt_le q k
    have hsz := hbl.size
    clear hown hbl
    by_cases hlt : k < n
    · have k0 : (0 : Int) ≤ (k : Int) := by omega
      have k1 : (k : Int) < (n : Int) := by omega
      obtain ⟨ck0, -⟩ := (HWO.out.below HBL.out).cell hlt
      obtain ⟨lf, hlf⟩ : ∃ lf, (wyA a.e c t (k : Int)).length = lf := ⟨_, rfl⟩
      replace ck0 : World.cell? _ _ = some (Value.slice (hh k) (wyA a.e c t (k : Int)).length (cc k)) := ck0
      rw [hlf] at ck0
      have HLF := Lib.hid hlf
      clear hlf
      by_cases hl : lf = 0
      · have hqk := HWF.out k (HLF.out.trans hl)
        have HX := Lib.hid (idx_f hqk)
        have HC := Lib.hid (cnt_f hqk)
        subst hl
        clear hqk
        go_wp2_with fail
        exact ⟨⟨k + 1, A', c', by omega, by rw [HC.out], by go_num, by rw [HC.out, HX.out]; exact HO.out, HBL.out⟩, by simp [intOf]; omega⟩
      · have hqk := HWT.out k (by rw [HLF.out]; omega)
        have HX := Lib.hid (idx_t hqk)
        have HC := Lib.hid (cnt_t hqk)
        have HIS := Lib.hid (iv_snoc (idx q k) k)
        have hl0 : 0 < lf := by omega
        clear hqk hl
        go_wp2_with (at_builtin; refine wpList_append_own _ rfl (.tmp 31) (.tmp 33) 22 rfl w2.heap.size 3 i0 (.int .i64 0) 1 8 Try.underlying22 HI.out HI0.out HI1.out HI2.out rfl (by decide) _ (cnt q k) (iv (idx q k)) rfl (HO.out.alloc _) ⟨wr.heap.size, 0, none⟩ 1 1 [.int .i64 (k : Int)] rfl rfl (World.news_of_block (heap_alloc_new wr _)) (by simp [Value.oneCell']) (by unfold maxLen; omega) (by omega) (by simp; omega) ?_; intro v' w6 hown6 hgr _; obtain ⟨A6, c6, rfl⟩ := own_form hown6; have O6 := Lib.hid hown6; have B6 := Lib.hid ((HBL.out.trans ((box_below _ _).mono HBL.out.size)).grown hgr (by simp; omega) (fun g e => (HO.out.lt g e).1)); clear hown6 hgr)
        exact ⟨⟨k + 1, A6, c6, by omega, by rw [HC.out], by go_num, by rw [HC.out, HX.out, HIS.out]; exact O6.out, B6.out⟩, by simp [intOf]; omega⟩
    · obtain rfl : k = n := by omega
      go_wp2_with fail
      go_ret
      exact ⟨A', c', by first | rfl | simp, own_base HO.out HB2.out.size, HB2.out.trans (HBL.out.mono HB2.out.size)⟩

end Go.Proofs.Ytfdmneceecaocaa.Di
