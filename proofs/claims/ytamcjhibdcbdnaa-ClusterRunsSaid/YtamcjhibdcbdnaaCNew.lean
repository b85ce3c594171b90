import Derived.Test.YtamcjhibdcbdnaaCRef0
namespace Go.Proofs.Ytamcjhibdcbdnaa.Cl
open Go.RowKit
open Go.Proofs.Ytamcjhibdcbdnaa.Tp
set_option linter.unusedVariables false

theorem rep_snoc (k : Nat) : List.replicate k ((0, true) : Nat × Bool) ++ [(0, true)] = List.replicate (k + 1) (0, true) := by
  rw [List.replicate_succ']

theorem one_row (W : World) (x : Value) (t : TypeId) : (W.alloc (.cells #[x] t)).ownsRow W.heap.size t 1 (.slice (some ⟨W.heap.size, 0, none⟩) 1 1) 1 [x] :=
  ⟨rfl, .inr ⟨W.heap.size, 1, #[x], rfl, Nat.le_refl _, heap_alloc_new _ _, Nat.le_refl _, by unfold maxLen; omega, rfl, rfl⟩⟩

/-- A new cluster. -/
def nw (n b : Nat) (f : Bool) : Cl := ⟨f, [b], List.replicate n (0, true), []⟩

def nb (g b : Nat) (f : Bool) (A : Option Addr) (k c' : Nat) : Array Value := #[.bool f, .slice (some ⟨g + 1, 0, none⟩) 1 1, .slice A k c', .slice none 0 0]

/-- The box of a new cluster: its replicas are being appended. -/
def NRel (w : World) (b : Nat) (f : Bool) (k : Nat) (wr : World) : Prop :=
  ∃ (A : Option Addr) (c' : Nat), wr.heap[w.heap.size + 2]? = some (.cells (nb w.heap.size b f A k c') 25 (0, 0)) ∧
    wr.ownsRow (w.heap.size + 3) 60 2 (.slice A k c') k (rv (List.replicate k (0, true))) ∧ wr.heap[w.heap.size + 1]? = some (.cells #[.int .i64 (b : Int)] 3 (0, 0)) ∧ wr.heap[w.heap.size]? = some (.cells zC 25 (0, 0)) ∧ Below w.heap.size w wr

theorem nb_cells {w : World} {G g b k c' : Nat} {f : Bool} {A : Option Addr} (h : w.heap[G]? = some (.cells (nb g b f A k c') 25 (0, 0))) :
    w.cell? ⟨G, 0, none⟩ = some (.bool f) ∧ w.cell? ⟨G, 1, none⟩ = some (.slice (some ⟨g + 1, 0, none⟩) 1 1) ∧ w.cell? ⟨G, 2, none⟩ = some (.slice A k c') ∧ w.cell? ⟨G, 3, none⟩ = some (.slice none 0 0) ∧ w.frozen? ⟨G, 2, none⟩ = false := by
  refine ⟨?_, ?_, ?_, ?_, frozen_of_row _ _ _ _ _ h⟩ <;> rw [cell_of_row _ _ _ _ _ _ h] <;> rfl

set_option maxRecDepth 100000 in
set_option maxHeartbeats 1000000 in
theorem refnew_any (n b : Nat) (f : Bool) (w : World) (hn : 1 ≤ n) (hn2 : n ≤ 3) (hb : b ≤ 3) :
    Calls Try.prog 17 #[.int .i64 (n : Int), .int .i64 (b : Int), .bool f] w (RPost (nw n b f) w) := by
  have HB0 := Lib.hid (box_below w (.cells zC 25))
  have HR0 := Lib.hid (heap_alloc_new w (.cells zC 25))
  have t1 : (1 : Int) ≤ (n : Int) := by omega
  have t2 : (n : Int) ≤ 5 := by omega
  have t3 : (0 : Int) ≤ (b : Int) := by omega
  have t4 : (b : Int) ≤ 3 := by omega
  obtain ⟨i0, hi1, hz0, hz1, hz2⟩ := info_parts zinfo60
  have HI := Lib.hid hi1
  have HI0 := Lib.hid hz0
  have HI1 := Lib.hid hz1
  have HI2 := Lib.hid hz2
  clear hi1 hz0 hz1 hz2
  go_enter Try.func17, Try.ntmps17
  go_wp2_with fail
  refine (in_yes _ _ _ _ t1 t2).mono ?_
  rintro e w1 ⟨rfl, rfl⟩
  go_wp2_with fail
  refine (in_yes _ _ _ _ t3 t4).mono ?_
  rintro e w1 ⟨rfl, rfl⟩
  obtain ⟨-, a1, a2, a3, hb0⟩ := boxes3 w (.cells zC 25) (.cells #[.int .i64 (b : Int)] 3) (.cells (nb w.heap.size b f none 0 0) 25)
  have hsz : (((w.alloc (.cells zC 25)).alloc (.cells #[.int .i64 (b : Int)] 3)).alloc (.cells (nb w.heap.size b f none 0 0) 25)).heap.size = w.heap.size + 3 := by simp
  have A1 := Lib.hid a1
  have A2 := Lib.hid a2
  have A3 := Lib.hid a3
  have HBB := Lib.hid hb0
  have HSZ := Lib.hid hsz
  clear a1 a2 a3 hb0 hsz
  go_wp2_with fail
  go_loopw [23] (fun ii wr => ∃ k : Nat, k ≤ n ∧ ii = .int .i64 k ∧ NRel w b f k wr) (fun ii _ => n - (intOf ii).toNat)
  case atStart => exact ⟨0, by omega, rfl, none, 0, A3.out, own_nil _ _ _ _, A2.out, A1.out, HBB.out⟩
  case round =>
    obtain ⟨k, hk, rfl, A, c', h1, h2, h3, h4, h5⟩ := hrel
    obtain ⟨c0, c1, c2, c3, f2⟩ := nb_cells (G := w.heap.size + 1 + 1) h1
    have hlw : w.heap.size + 2 < wr.heap.size := row_lt h1
    have H1 := Lib.hid h1
    have H2 := Lib.hid h2
    have H3 := Lib.hid h3
    have H4 := Lib.hid h4
    have H5 := Lib.hid h5
    clear h1 h2 h3 h4 h5
    by_cases hlt : k < n
    · have hkn : k ≤ 1000 := by omega
      go_wp2_with (at_builtin; refine wpList_append_own _ rfl (.tmp 26) (.tmp 28) 23 rfl (w.heap.size + 3) 60 i0 (.agg #[.int .i64 0, .bool false]) 2 16 Try.underlying23 HI.out HI0.out HI1.out HI2.out rfl (by decide) _ k (rv (List.replicate k (0, true))) rfl (H2.out.alloc _) ⟨wr.heap.size, 0, none⟩ 1 1 [.int .i64 0, .bool true] rfl rfl (World.news_of_block (heap_alloc_new wr _)) (by simp [Value.oneCell']) (by unfold maxLen; omega) (by omega) (by simp; omega) ?_; intro v' w6 hown hgr _; obtain ⟨A', c2', rfl⟩ := own_form hown; have HOWN6 := Lib.hid hown; have J1 := (far_block H2.out hgr (w.heap.size + 2) (by omega) (by omega)).trans H1.out; have J3 := Lib.hid ((far_block H2.out hgr (w.heap.size + 1) (by omega) (by omega)).trans H3.out); have J4 := Lib.hid ((far_block H2.out hgr w.heap.size (by omega) (by omega)).trans H4.out); have HB6 := Lib.hid (far_below H5.out H2.out hgr (by omega)); clear hown hgr c0 c1 c2 c3 f2; obtain ⟨d0, d1, d2, d3, f2⟩ := nb_cells (G := w.heap.size + 1 + 1) J1; have JJ := Lib.hid J1; clear J1)
      have e7 : w6.setCell ⟨w.heap.size + 1 + 1, 2, none⟩ (.slice A' (k + 1) c2') = w6.setRow (w.heap.size + 2) (nb w.heap.size b f A' (k + 1) c2') := setCell_eq_setRow _ _ _ _ _ _ _ JJ.out
      rw [e7]
      refine ⟨⟨k + 1, by omega, by go_num, A', c2', setRow_heap _ _ _ _ _ _ JJ.out, own_set ?_ (by omega) _, (setRow_other _ _ _ _ (by omega)).trans J3.out, (setRow_other _ _ _ _ (by omega)).trans J4.out, below_setRow HB6.out (by omega) _⟩, by simp [intOf]; omega⟩
      rw [← rep_snoc, rv_snoc]
      exact HOWN6.out
    · obtain rfl : n = k := by omega
      obtain ⟨j0, j1, j2, j3, j4, j5, j6, j7⟩ := zCells (g := w.heap.size) H4.out
      go_wp2_with fail
      rw [set4row (g := w.heap.size) H4.out rfl]
      have hcv : (#[.bool f, .slice (some ⟨w.heap.size + 1, 0, none⟩) 1 1, .slice A n c', .slice none 0 0] : Array Value) = cv (nw n b f) ⟨some ⟨w.heap.size + 1, 0, none⟩, 1, A, c', none, 0⟩ := by simp [cv, nw]
      rw [hcv]
      refine bodyPost_ret (v := .tuple #[.agg (cv (nw n b f) ⟨some ⟨w.heap.size + 1, 0, none⟩, 1, A, c', none, 0⟩), .int .i64 0]) (results_cell_row2 (fn := Try.f17) (p := 6) (u := 7) rfl _ _ w.heap.size 25 (cv (nw n b f) ⟨some ⟨w.heap.size + 1, 0, none⟩, 1, A, c', none, 0⟩) (0, 0) _ rfl (setRow_heap _ _ _ _ _ _ H4.out) Try.underlying25 rfl (info25 _ _)) rfl ⟨_, rfl, ?_, below_setRow H5.out (Nat.le_refl _) _⟩
      have hr2 := row_of_own H2.out
      have hl : (List.replicate n ((0, true) : Nat × Bool)).length = n := by simp
      refine ⟨⟨rfl, fun _ => ⟨w.heap.size + 1, 0, rfl, by omega, by rw [setRow_size]; omega, fun j u hj => ?_⟩⟩, ?_, ⟨rfl, fun h => absurd h (by simp [nw])⟩⟩
      · rw [cell_setRow_other _ _ _ _ (by show w.heap.size + 1 ≠ w.heap.size; omega), Nat.zero_add, cell_of_row _ _ _ _ _ _ H3.out]
        cases j with
        | zero => exact hj
        | succ j => simp [nw, iv] at hj
      · show Row _ w.heap.size 2 A (List.replicate n ((0, true) : Nat × Bool)).length _
        rw [hl]
        exact (hr2.set (by omega) _).base (by omega)

end Go.Proofs.Ytamcjhibdcbdnaa.Cl
