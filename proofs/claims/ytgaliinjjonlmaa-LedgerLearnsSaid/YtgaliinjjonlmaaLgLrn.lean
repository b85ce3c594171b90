import Derived.Test.YtgaliinjjonlmaaLgChg
namespace Go.Proofs.Ytgaliinjjonlmaa.Lg
open Go.RowKit
open Go.Proofs.Ytgaliinjjonlmaa.Tp
set_option linter.unusedVariables false

set_option maxRecDepth 100000 in
set_option maxHeartbeats 400000 in
theorem eqv_any (v x V : Int) (g : Nat) (w : World) (hg : w.cell? ⟨g, 0, none⟩ = some (.int .i64 V)) (hlt : g < w.heap.size) : Calls Try.prog 76 #[.agg #[.int .i64 v, .int .i64 x], .pointer (some ⟨g, 0, none⟩)] w fun e w' => e = .returned (.bool (v == V)) ∧ Below w.heap.size w w' := by
  have hc : ∀ o, (w.alloc o).cell? ⟨g, 0, none⟩ = some (.int .i64 V) := fun o => (World.cell?_alloc_lt _ _ _ hlt).trans hg
  have HB := Lib.hid (fun o => box_below w o)
  clear hg
  go_enter Try.func76, Try.ntmps76
  go_wp2
  go_ret
  exact ⟨rfl, HB.out _⟩

/-- The first change that tells a value; -1: none. -/
def First (l : List R) (xs : List Nat) (V j : Int) : Prop :=
  (j = -1 ∧ ∀ k, k < xs.length → bv l ((xs.getD k 0 : Nat) : Int) ≠ V) ∨ ∃ i : Nat, j = i ∧ i < xs.length ∧ bv l ((xs.getD i 0 : Nat) : Int) = V ∧ ∀ k, k < i → bv l ((xs.getD k 0 : Nat) : Int) ≠ V

set_option maxRecDepth 100000 in
set_option maxHeartbeats 1000000 in
theorem first_any (A : Option Addr) (m c : Nat) (l : List R) (xs : List Nat) (V : Int) (g : Nat) (w : World) (h : Bels w A m l xs) (hg : w.cell? ⟨g, 0, none⟩ = some (.int .i64 V)) (hlt : g < w.heap.size) (hm : m ≤ 1000) :
    Calls Try.prog 75 #[.slice A m c, .func (.func 76) #[] #[.pointer (some ⟨g, 0, none⟩)]] w fun e w' => ∃ j : Int, e = .returned (.int .i64 j) ∧ First l xs V j ∧ Below w.heap.size w w' := by
  have H := Lib.hid h
  have HG := Lib.hid hg
  clear h hg
  go_enter Try.func75, Try.ntmps75
  go_wp2
  go_loopw [8] (fun ii wr => ∃ i : Nat, i ≤ m ∧ ii = .int .i64 i ∧ (∀ k, k < i → bv l ((xs.getD k 0 : Nat) : Int) ≠ V) ∧ Below w.heap.size w wr) (fun ii _ => m - (intOf ii).toNat)
  case atStart => exact ⟨0, by omega, rfl, fun k hk => absurd hk (by omega), Below.refl _ _⟩
  case round =>
    obtain ⟨i, hi, rfl, hno, hbl⟩ := hrel
    have HNO := Lib.hid hno
    have HBL := Lib.hid hbl
    clear hno
    by_cases hlt2 : i < m
    · obtain ⟨b, rfl, hbk, hc⟩ := (H.out.below hbl).mem (by omega)
      obtain ⟨c0, c1⟩ := hc i hlt2
      have hgw : wr.cell? ⟨g, 0, none⟩ = some (.int .i64 V) := (hbl.cell (p := ⟨g, 0, none⟩) hlt).trans HG.out
      have HE := Lib.hid (fun y x => eqv_any y x V g wr hgw (Nat.lt_of_lt_of_le hlt hbl.size))
      obtain ⟨y, hy⟩ : ∃ y, bv l ((xs.getD i 0 : Nat) : Int) = y := ⟨_, rfl⟩
      rw [hy] at c0
      have HY := Lib.hid hy
      obtain ⟨x, hx⟩ : ∃ x, ((xs.getD i 0 : Nat) : Int) = x := ⟨_, rfl⟩
      rw [hx] at c1
      clear hc hbl hgw hy hx
      by_cases hv : y = V
      · subst hv
        have hyy : (y == y) = true := by simp
        go_wp2_with (go_at_call 76; refine (HE.out _ _).mono ?_; rintro e w2 ⟨rfl, hb2⟩; have HB2 := Lib.hid (HBL.out.trans (hb2.mono HBL.out.size)); clear hb2)
        go_ret
        exact ⟨i, rfl, .inr ⟨i, rfl, by rw [H.out.len]; exact hlt2, HY.out, HNO.out⟩, HB2.out⟩
      · have hyy : (y == V) = false := beq_eq_false_iff_ne.2 hv
        have HV := Lib.hid hv
        clear hv
        go_wp2_with (go_at_call 76; refine (HE.out _ _).mono ?_; rintro e w2 ⟨rfl, hb2⟩; have HB2 := Lib.hid (HBL.out.trans (hb2.mono HBL.out.size)); clear hb2)
        refine ⟨⟨i + 1, by omega, by go_num, fun k hk => ?_, HB2.out⟩, by simp [intOf]; omega⟩
        by_cases e : k = i
        · rw [e, HY.out]
          exact HV.out
        · exact HNO.out k (by omega)
    · obtain rfl : m = i := by omega
      go_wp2
      go_ret
      exact ⟨-1, rfl, .inl ⟨rfl, by rw [H.out.len]; exact HNO.out⟩, HBL.out⟩

/-- Whether, at k, a value is said of a time. -/
def Hit (l : List R) (U t : Nat) (V : Int) (k : Nat) : Prop := sd l k U t l.length ≠ -1 ∧ bv l (sd l k U t l.length) = V

def LRes (w : World) (l : List R) (U t : Nat) (V : Int) (e : Ending) (w' : World) : Prop :=
  ∃ (k : Nat) (ok : Bool), e = .returned (.tuple #[.int .i64 (k : Int), .bool ok]) ∧ ((ok = false ∧ ∀ k, ¬ Hit l U t V k) ∨ (ok = true ∧ k ≤ 1000000 ∧ (∃ x, x < l.length ∧ k = (l.getD x r0).k) ∧ Hit l U t V k ∧ ∀ j, j < k → ¬ Hit l U t V j)) ∧ Below w.heap.size w w'

theorem bv_nat (l : List R) (x : Nat) : bv l (x : Int) = (l.getD x r0).v := by
  unfold bv
  rw [if_neg (by omega), Int.toNat_natCast]

theorem no_hit {l : List R} {U t : Nat} {V : Int} {k : Nat} (h : sd l k U t l.length = -1 ∨ bv l (sd l k U t l.length) ≠ V) : ¬ Hit l U t V k := fun hh => h.elim hh.1 (fun h => h hh.2)

set_option maxRecDepth 100000 in
set_option maxHeartbeats 1000000 in
theorem learned_any (A : Option Addr) (n c : Nat) (l : List R) (U t : Nat) (V : Int) (w : World) (h : Lies w A n l) (hok : Ok l) (ht : t ≤ 1000000) :
    Calls Try.prog 42 #[.slice A n c, .int .i64 (U : Int), .int .i64 (t : Int), .int .i64 V] w (LRes w l U t V) := by
  have hlen := h.len
  have hfew := hok.few
  have HB0 := Lib.hid (box_below w (.cells #[.int .i64 V] 3))
  have HR0 := Lib.hid (heap_alloc_new w (.cells #[.int .i64 V] 3))
  have HLI := Lib.hid (fun w' (hw : Below w.heap.size w w') => h.below hw)
  have HC := Lib.hid (changes_any A n c l U t (w.alloc (.cells #[.int .i64 V] 3)) (h.below (box_below _ _)) hok ht)
  have HOK := Lib.hid hok
  have HLEN := Lib.hid hlen
  have hcl := ch_len l U t n
  clear h hok
  go_enter Try.func42, Try.ntmps42
  go_wp2_with fail
  refine HC.out.mono ?_
  rintro e w1 ⟨B, cb, rfl, hbel, hb1⟩
  have HBEL := Lib.hid hbel
  have HB1 := Lib.hid (HB0.out.trans (hb1.mono HB0.out.size))
  have hr1 := (hb1.block w.heap.size (by simp)).trans HR0.out
  have hv1 : w1.cell? ⟨w.heap.size, 0, none⟩ = some (.int .i64 V) := by rw [cell_of_row _ _ _ _ _ _ hr1]; rfl
  have HF := Lib.hid (first_any B (ch l U t n).length cb l (ch l U t n) V w.heap.size w1 hbel hv1 (row_lt hr1) (by omega))
  clear hb1 hr1 hbel hv1
  go_wp2_with fail
  refine HF.out.mono ?_
  rintro e w2 ⟨j, rfl, hj, hb2⟩
  have HBEL2 := Lib.hid (HBEL.out.below hb2)
  have HB2 := Lib.hid (HB1.out.trans (hb2.mono HB1.out.size))
  clear hb2
  rcases hj with ⟨rfl, hno⟩ | ⟨i, rfl, hi, hv, hmin⟩
  · have HNO := Lib.hid hno
    clear hno
    go_wp2_with fail
    go_ret2
    refine ⟨0, false, rfl, .inl ⟨rfl, fun k => no_hit ?_⟩, HB2.out⟩
    refine learned_none l U t V HOK.out (fun j hj => ?_) k
    rw [HLEN.out] at hj ⊢
    rw [← bv_nat]
    exact HNO.out j hj
  · have hsome := learned_some l U t V HOK.out i (by rw [HLEN.out]; exact hi) (by rw [HLEN.out, ← bv_nat]; exact hv) (fun j hj => by rw [HLEN.out, ← bv_nat]; exact hmin j hj)
    rw [HLEN.out] at hsome
    obtain ⟨b, e, hbk, hc⟩ := HBEL2.out.mem (by omega)
    subst e
    have c1 := (hc i hi).2
    obtain ⟨x, hx⟩ : ∃ x, (ch l U t n).getD i 0 = x := ⟨_, rfl⟩
    simp only [hx] at hsome hv c1
    obtain ⟨hxl, hself, hearly⟩ := hsome
    obtain ⟨b2, off2, rfl, hbk2, hc2⟩ := (HLI.out _ HB2.out).at4 (by omega)
    have e0 := (hc2 x hxl).1
    have hbd := (HOK.out.bd x (by rw [HLEN.out]; exact hxl)).1
    have HV := Lib.hid hv
    have HS := Lib.hid hself
    have HE := Lib.hid hearly
    have hxn : (x : Int) < (n : Int) := by omega
    have hx0 : (0 : Int) ≤ (x : Int) := by omega
    have hi0 : (0 : Int) ≤ (i : Int) := by omega
    obtain ⟨M, hM⟩ : ∃ M, (ch l U t n).length = M := ⟨_, rfl⟩
    rw [hM]
    have hiM : (i : Int) < (M : Int) := by omega
    obtain ⟨kk, hkk⟩ : ∃ kk, (l.getD x r0).k = kk := ⟨_, rfl⟩
    rw [hkk] at e0 hbd
    have HKK := Lib.hid hkk
    clear hv hself hearly hc hc2 hmin hx hcl hi hkk
    go_wp2_with fail
    go_ret2
    refine ⟨kk, true, rfl, .inr ⟨rfl, hbd, ⟨x, by rw [HLEN.out]; exact hxl, HKK.out.symm⟩, ?_, fun j hj => no_hit ?_⟩, HB2.out⟩
    · have hs := HS.out
      rw [HKK.out] at hs
      unfold Hit
      rw [HLEN.out, hs]
      exact ⟨by omega, HV.out⟩
    · rw [HLEN.out]
      exact HE.out j (by rw [HKK.out]; exact hj)

end Go.Proofs.Ytgaliinjjonlmaa.Lg
