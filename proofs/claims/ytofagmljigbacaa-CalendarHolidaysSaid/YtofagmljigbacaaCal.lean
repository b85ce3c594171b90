import Derived.Test.YtofagmljigbacaaMake
namespace Go.Proofs.Ytofagmljigbacaa.Tp
open Go.RowKit
open Go.Proofs.Ytofagmljigbacaa.Cal
set_option linter.unusedVariables false

theorem zero24 (w : World) : (zeroValue 24).run Try.prog w = .ok (.agg (calC 0 0 0 0 none 0 0)) w := by kernel_rfl

def weeks : Array Value := #[.int .i64 31, .int .i64 127, .int .i64 62, .int .i64 1]

def PickPost (T : Nat) (w : World) (e : Ending) (w' : World) : Prop := ∃ W : Nat, (W = 31 ∨ W = 127 ∨ W = 62 ∨ W = 1) ∧ e = .returned (.int .i64 (W : Int)) ∧ w.grownBy w' (some T) ∧ TapeOk w' T

set_option maxRecDepth 100000 in
set_option maxHeartbeats 400000 in
theorem pick_any (T g : Nat) (w : World) (h : TapeOk w T) (hg : w.heap[g]? = some (.cells weeks 3 (0, 0))) (hne : g ≠ T) :
    Calls Try.prog 12 #[.pointer (some ⟨T, 0, none⟩), .slice (some ⟨g, 0, none⟩) 4 4] w (PickPost T w) := by
  have hlt : g < w.heap.size := by
    by_cases hh : g < w.heap.size
    · exact hh
    · have : w.heap[g]? = none := by simp; omega
      rw [this] at hg
      cases hg
  have hc := next_any T 4 w h (by omega) (by omega)
  have HC := Lib.hid hc
  have HG := Lib.hid hg
  clear h hc hg
  go_enter Try.func12, Try.ntmps12
  go_wp2_with fail
  refine HC.out.mono ?_
  rintro e w1 ⟨r, hr0, hr1, rfl, hg1, ht1⟩
  have hrow := (hg1.block g hlt (by simpa using hne)).trans HG.out
  have HG1 := Lib.hid hg1
  have HT1 := Lib.hid ht1
  clear hg1 ht1
  obtain ⟨k, rfl⟩ : ∃ k : Nat, r = k := ⟨r.toNat, by omega⟩
  have hk : ∃ W : Nat, (W = 31 ∨ W = 127 ∨ W = 62 ∨ W = 1) ∧ w1.cell? ⟨g, k, none⟩ = some (.int .i64 (W : Int)) := by
    rw [cell_of_row _ _ _ _ _ _ hrow]
    rcases (by omega : k = 0 ∨ k = 1 ∨ k = 2 ∨ k = 3) with rfl | rfl | rfl | rfl
    · exact ⟨31, by simp, rfl⟩
    · exact ⟨127, by simp, rfl⟩
    · exact ⟨62, by simp, rfl⟩
    · exact ⟨1, by simp, rfl⟩
  obtain ⟨W, hW, hcell⟩ := hk
  have HW := Lib.hid hW
  clear hW hrow
  go_wp2
  go_ret
  exact ⟨W, HW.out, rfl, HG1.out, HT1.out⟩

/-- The maker's calendar: valid, with holidays below 12. -/
def CalPost (T : Nat) (w : World) (e : Ending) (w' : World) : Prop :=
  ∃ (D F U W : Nat) (A : Option Addr) (n c : Nat) (hs : List Nat), e = .returned (.agg (calC D F U W A n c)) ∧ CalOk w' D F U W A n hs ∧ Go.Proofs.Ytofagmljigbacaa.Cal.Good D F U W hs ∧ D ≤ 12 ∧ (∀ g off, A = some ⟨g, off, none⟩ → T < g) ∧ w.grownBy w' (some T) ∧ TapeOk w' T

theorem calC_one (D F U W : Nat) (A : Option Addr) (n c : Nat) : (calC D F U W A n c).all (·.oneCell') = true := by simp [calC, Value.oneCell']

theorem gb_new (w : World) (o : Obj) (cs : Array Value) (row : Option Nat) : w.grownBy ((w.alloc o).setRow w.heap.size cs) row :=
  ⟨rfl, rfl, rfl, by simp, fun k hk _ => by rw [setRow_other _ _ _ _ (by omega)]; exact Below.heap_alloc _ _ _ hk⟩

theorem row_hol {w : World} {base : Nat} {v : Value} {hs : List Nat} (h : w.ownsRow base 3 1 v hs.length (i64s hs)) (ha : Asc hs 12) : ∃ A c, v = .slice A hs.length c ∧ Hol w A hs.length hs ∧ (∀ g off, A = some ⟨g, off, none⟩ → base ≤ g) ∧ hs.length ≤ c ∧ c ≤ maxLen := by
  have h' := h
  have hl := ha.1
  rcases h.2 with ⟨rfl, e⟩ | ⟨g, cap, cur, rfl, hb, hh, hnc, hcm, _⟩
  · have e0 : hs = [] := List.eq_nil_of_length_eq_zero e
    subst e0
    exact ⟨none, 0, rfl, ⟨rfl, by simp, by simp, by simp, fun h => absurd h (by simp)⟩, (fun g off e => by cases e), by simp, by unfold maxLen; omega⟩
  · refine ⟨_, _, rfl, ⟨rfl, by omega, fun x hx => by have := ha.2.1 x hx; omega, ha.2.2, fun h0 => ⟨g, 0, rfl, (Array.getElem?_eq_some_iff.1 hh).1, fun j hj => ?_⟩⟩, (fun g' off e => by cases e; exact hb), hnc, hcm⟩
    rw [Nat.zero_add, h'.cellAt j (by omega)]
    simp [i64s, hj]

theorem after_store (w2 : World) (D W : Nat) : ∃ w3, w3 = (w2.alloc (.cells (calC 0 0 0 0 none 0 0) 24)).setRow w2.heap.size (calC D 0 0 W none 0 0) ∧ w2.grownBy w3 none ∧ w3.heap[w2.heap.size]? = some (.cells (calC D 0 0 W none 0 0) 24 (0, 0)) ∧ w2.heap.size + 1 ≤ w3.heap.size ∧ w3.cell? ⟨w2.heap.size, 0, none⟩ = some (.int .i64 (D : Int)) :=
  ⟨_, rfl, gb_new _ _ _ _, setRow_heap _ _ _ _ _ _ (heap_alloc_new _ _), by simp, (calCells (setRow_heap _ _ _ _ _ _ (heap_alloc_new _ _))).1⟩

theorem gb_far {a b : World} {row : Option Nat} (h : a.grownBy b row) {g : Nat} (hg : a.heap.size ≤ g) (i : Nat) (v : Value) : a.grownBy (b.setCell ⟨g, i, none⟩ v) row :=
  ⟨h.os, h.tape, h.output, by simp [World.setCell]; exact h.size, fun k hk hne => (Below.heap_setCell _ _ _ _ (by simp; omega)).trans (h.block k hk hne)⟩

theorem gb_farRow {a b : World} {row : Option Nat} (h : a.grownBy b row) {g : Nat} (hg : a.heap.size ≤ g) (cs : Array Value) : a.grownBy (b.setRow g cs) row :=
  ⟨h.os, h.tape, h.output, by simp; exact h.size, fun k hk hne => (setRow_other _ _ _ _ (by omega)).trans (h.block k hk hne)⟩

theorem gb_none {a b : World} {row : Option Nat} (h : a.grownBy b none) : a.grownBy b row := ⟨h.os, h.tape, h.output, h.size, fun k hk _ => h.block k hk (by simp)⟩

/-- The same, and the holidays' capacity. -/
def CalPost2 (T : Nat) (w : World) (e : Ending) (w' : World) : Prop :=
  ∃ (D F U W : Nat) (A : Option Addr) (n c : Nat) (hs : List Nat), (e = .returned (.agg (calC D F U W A n c)) ∧ CalOk w' D F U W A n hs ∧ Go.Proofs.Ytofagmljigbacaa.Cal.Good D F U W hs ∧ D ≤ 12 ∧ (∀ g off, A = some ⟨g, off, none⟩ → T < g) ∧ w.grownBy w' (some T) ∧ TapeOk w' T) ∧ n ≤ c ∧ c ≤ maxLen

set_option maxRecDepth 100000 in
set_option maxHeartbeats 1000000 in
theorem calendar_two (T : Nat) (w : World) (h : TapeOk w T) (hTw : T < w.heap.size) :
    Calls Try.prog 9 #[.pointer (some ⟨T, 0, none⟩)] w (CalPost2 T w) := by
  have hz := zero24
  have HT := Lib.hid h
  clear h
  go_enter Try.func9, Try.ntmps9
  go_wp2_with fail
  refine (between_any T 1 12 _ (HT.out.kept (World.grownBy_alloc w _ none) (by simp)) (by omega) (by omega) (by omega) (by omega)).mono ?_
  rintro e w1 ⟨r, hr0, hr1, rfl, hg1, ht1⟩
  have hs1 := hg1.size
  simp at hs1
  obtain ⟨D, rfl⟩ : ∃ D : Nat, r = D := ⟨r.toNat, by omega⟩
  have HG1 := Lib.hid hg1
  have HT1 := Lib.hid ht1
  clear hg1 ht1
  go_wp2_with fail
  refine (pick_any T w1.heap.size _ (HT1.out.kept (World.grownBy_alloc w1 _ none) (by simp)) (heap_alloc_new _ _) (by omega)).mono ?_
  rintro e w2 ⟨W, hW, rfl, hg2, ht2⟩
  have hs2 := hg2.size
  simp at hs2
  have HW := Lib.hid hW
  have HG2 := Lib.hid hg2
  have HT2 := Lib.hid ht2
  clear hW hg2 ht2
  go_wp2_with (refine wpList_store_row rfl 24 _ _ rfl w2.heap.size (calC D 0 0 W none 0 0) rfl rfl 24 (calC 0 0 0 0 none 0 0) (heap_alloc_new w2 _) (info24 _ _ _ _ _ _ _) rfl (calC_one _ _ _ _ _ _ _) ?_; obtain ⟨w3, hw3, hg3, hr3, hs3, c0⟩ := after_store w2 D W; rw [← hw3]; have HG3 := Lib.hid hg3; have HR3 := Lib.hid hr3; clear hw3 hg3 hr3)
  have ht3 := HT2.out.kept HG3.out (by simp)
  have HT3 := Lib.hid ht3
  clear ht3
  refine (next_any T D _ HT3.out (by omega) (by omega)).mono ?_
  rintro e w4 ⟨r, hr0', hr1', rfl, hg4, ht4⟩
  have hs4 := hg4.size
  obtain ⟨F, rfl⟩ : ∃ F : Nat, r = F := ⟨r.toNat, by omega⟩
  have hr4 := (hg4.block w2.heap.size (by omega) (by simp; omega)).trans HR3.out
  clear c0
  obtain ⟨c0, c1, c2, c3, c4⟩ := calCells hr4
  have f1 : w4.frozen? ⟨w2.heap.size, 1, none⟩ = false := frozen_of_row _ _ _ _ _ hr4
  have HR4 := Lib.hid hr4
  have HG4 := Lib.hid hg4
  have HT4 := Lib.hid ht4
  clear hr4 hg4 ht4
  go_wp2_with fail
  have ht4 := HT4.out.kept (gb_set w4 w2.heap.size 1 (.int .i64 (F : Int))) (fun k e => by cases e; omega)
  refine (between_any T ((F : Int) + 1) D _ ht4 (by omega) (by omega) (by omega) (by omega)).mono ?_
  rintro e w5 ⟨r, hr0'', hr1'', rfl, hg5, ht5⟩
  have hs5 := hg5.size
  simp [World.setCell] at hs5
  obtain ⟨U, rfl⟩ : ∃ U : Nat, r = U := ⟨r.toNat, by omega⟩
  have hr5 : w5.heap[w2.heap.size]? = some (.cells (calC D F 0 W none 0 0) 24 (0, 0)) := (hg5.block w2.heap.size (by simp [World.setCell]; omega) (by simp; omega)).trans (heap_setCell_same _ _ _ _ _ _ HR4.out)
  clear c0 c1 c2 c3 c4 f1
  obtain ⟨c0, c1, c2, c3, c4⟩ := calCells hr5
  have f2 : w5.frozen? ⟨w2.heap.size, 2, none⟩ = false := frozen_of_row _ _ _ _ _ hr5
  have HR5 := Lib.hid hr5
  have HG5 := Lib.hid hg5
  have HT5 := Lib.hid ht5
  clear hr5 hg5 ht5 ht4
  go_wp2_with fail
  have ht5 := HT5.out.kept (gb_set w5 w2.heap.size 2 (.int .i64 (U : Int))) (fun k e => by cases e; omega)
  refine (few_any T 12 4 _ ht5 (by simp [World.setCell]; omega) (by omega) (by omega) (by omega)).mono ?_
  rintro e w6 ⟨v, rfl, hs, ha, hrow, hg6, ht6⟩
  have hs6 := hg6.size
  simp [World.setCell] at hs6
  obtain ⟨A, c, rfl, hhol, hfar, hnc, hcm⟩ := row_hol hrow ha
  have hr6 : w6.heap[w2.heap.size]? = some (.cells (calC D F U W none 0 0) 24 (0, 0)) := (hg6.block w2.heap.size (by simp [World.setCell]; omega) (by simp; omega)).trans (heap_setCell_same _ _ _ _ _ _ HR5.out)
  clear c0 c1 c2 c3 c4 f2 hrow
  obtain ⟨c0, c1, c2, c3, c4⟩ := calCells hr6
  have f4 : w6.frozen? ⟨w2.heap.size, 4, none⟩ = false := frozen_of_row _ _ _ _ _ hr6
  have HR6 := Lib.hid hr6
  have HG6 := Lib.hid hg6
  have HT6 := Lib.hid ht6
  have HHOL := Lib.hid hhol
  have HFAR := Lib.hid hfar
  have HNC := Lib.hid hnc
  have HCM := Lib.hid hcm
  clear hnc hcm
  have HA := Lib.hid ha
  clear hr6 hg6 ht6 ht5 hhol hfar ha
  have hr7 : (w6.setCell ⟨w2.heap.size, 4, none⟩ (.slice A hs.length c)).heap[w2.heap.size]? = some (.cells (calC D F U W A hs.length c) 24 (0, 0)) := heap_setCell_same _ _ _ _ _ _ HR6.out
  have HR7 := Lib.hid hr7
  clear hr7
  have hGA : (w.alloc (.cells (calC 0 0 0 0 none 0 0) 24)).grownBy (w6.setCell ⟨w2.heap.size, 4, none⟩ (.slice A hs.length c)) (some T) := by
    have z : (w.alloc (.cells (calC 0 0 0 0 none 0 0) 24)).heap.size = w.heap.size + 1 := by simp
    have q1 := gb_trans (gb_trans (gb_trans (gb_trans HG1.out (World.grownBy_alloc w1 (.cells weeks 3) (some T))) HG2.out) (gb_none HG3.out)) HG4.out
    have q2 := gb_trans (gb_far q1 (g := w2.heap.size) (by omega) 1 (.int .i64 (F : Int))) HG5.out
    have q3 := gb_trans (gb_far q2 (g := w2.heap.size) (by omega) 2 (.int .i64 (U : Int))) HG6.out
    exact gb_far q3 (by omega) _ _
  have hres : (w6.setCell ⟨w2.heap.size, 4, none⟩ (.slice A hs.length c)).heap[w.heap.size]? = some (.cells (calC 0 0 0 0 none 0 0) 24 (0, 0)) := (hGA.block w.heap.size (by simp) (by simp; omega)).trans (heap_alloc_new _ _)
  have HGA := Lib.hid hGA
  have HRES := Lib.hid hres
  clear hGA hres
  go_wp2_with (first
    | (with_reducible refine wpList_load_row rfl 24 _ rfl w2.heap.size rfl 24 (calC D F U W A hs.length c) (0, 0) _ HR7.out Try.underlying24 rfl (info24 _ _ _ _ _ _ _) ?_)
    | (refine wpList_store_row rfl 24 _ _ rfl w.heap.size (calC D F U W A hs.length c) rfl rfl 24 (calC 0 0 0 0 none 0 0) HRES.out (info24 _ _ _ _ _ _ _) rfl (calC_one _ _ _ _ _ _ _) ?_))
  refine bodyPost_ret (v := .agg (calC D F U W A hs.length c)) (results_cell_row rfl _ _ w.heap.size 24 (calC D F U W A hs.length c) (0, 0) _ rfl (setRow_heap _ _ _ _ _ _ HRES.out) Try.underlying24 rfl (info24 _ _ _ _ _ _ _)) rfl ?_
  have hgW : w.grownBy ((w6.setCell ⟨w2.heap.size, 4, none⟩ (.slice A hs.length c)).setRow w.heap.size (calC D F U W A hs.length c)) (some T) := gb_farRow (gb_trans (World.grownBy_alloc w _ _) HGA.out) (Nat.le_refl _) _
  have hol7 : Hol ((w6.setCell ⟨w2.heap.size, 4, none⟩ (.slice A hs.length c)).setRow w.heap.size (calC D F U W A hs.length c)) A hs.length hs := by
    refine ⟨HHOL.out.len, HHOL.out.few, HHOL.out.small, HHOL.out.up, fun h0 => ?_⟩
    obtain ⟨b, off, e, hlt, hc⟩ := HHOL.out.mem h0
    have hfb := HFAR.out b off e
    simp [World.setCell] at hfb
    refine ⟨b, off, e, by simp [World.setCell]; omega, fun j hj => ?_⟩
    have e1 : ((w6.setCell ⟨w2.heap.size, 4, none⟩ (.slice A hs.length c)).setRow w.heap.size (calC D F U W A hs.length c)).heap[b]? = w6.heap[b]? := by
      rw [setRow_other _ _ _ _ (by omega)]
      exact Below.heap_setCell _ _ _ _ (by simp; omega)
    exact (World.cell?_of_block (w := w6) e1).trans (hc j hj)
  have htf : TapeOk ((w6.setCell ⟨w2.heap.size, 4, none⟩ (.slice A hs.length c)).setRow w.heap.size (calC D F U W A hs.length c)) T := by
    have t1 := HT6.out.kept (gb_set w6 w2.heap.size 4 (.slice A hs.length c)) (fun k e => by cases e; omega)
    exact t1.kept (row := some w.heap.size) ⟨rfl, rfl, rfl, by simp, fun k hk hne => setRow_other _ _ _ _ (fun e => hne (by rw [e]))⟩ (fun k e => by cases e; omega)
  have hW128 : W < 128 := by rcases HW.out with rfl | rfl | rfl | rfl <;> omega
  have hbit : ∃ b, b < 7 ∧ W / 2 ^ b % 2 = 1 := by rcases HW.out with rfl | rfl | rfl | rfl <;> first | exact ⟨0, by omega, by decide⟩ | exact ⟨1, by omega, by decide⟩
  exact ⟨D, F, U, W, A, hs.length, c, hs, ⟨rfl, ⟨by omega, by omega, by omega, by omega, hW128, hol7⟩, ⟨by omega, by omega, by omega, hW128, hbit, fun x hx => HA.out.2.1 x hx⟩, by omega, fun g off e => by have := HFAR.out g off e; simp [World.setCell] at this; omega, hgW, htf⟩, HNC.out, HCM.out⟩

theorem calendar_any (T : Nat) (w : World) (h : TapeOk w T) (hTw : T < w.heap.size) : Calls Try.prog 9 #[.pointer (some ⟨T, 0, none⟩)] w (CalPost T w) :=
  (calendar_two T w h hTw).mono fun _ _ ⟨D, F, U, W, A, n, c, hs, h, _, _⟩ => ⟨D, F, U, W, A, n, c, hs, h⟩
end Go.Proofs.Ytofagmljigbacaa.Tp
