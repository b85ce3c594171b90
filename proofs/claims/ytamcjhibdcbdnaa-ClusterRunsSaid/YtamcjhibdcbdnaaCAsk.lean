import Derived.Test.YtamcjhibdcbdnaaCAcc
import Derived.Test.YtamcjhibdcbdnaaCRef0
namespace Go.Proofs.Ytamcjhibdcbdnaa.Cl
open Go.RowKit
open Go.Proofs.Ytamcjhibdcbdnaa.Tp
set_option linter.unusedVariables false

/-- Evidence as cells. -/
def xc (r g : Int) (f : Bool) : Array Value := #[.int .i64 r, .int .i64 g, .bool f]
theorem info67 (r g : Int) (f : Bool) : (Try.prog.info? 67).map (·.size) = some (xc r g f).size := by
  have h : (Try.prog.info? 67).map (·.size) = some 3 := by kernel_rfl
  exact h
theorem xc_one (r g : Int) (f : Bool) : (xc r g f).all (·.oneCell') = true := by simp [xc, Value.oneCell']
theorem xcCells {w : World} {r g : Int} {f : Bool} {G : Nat} (h : w.heap[G]? = some (.cells (xc r g f) 67 (0, 0))) :
    w.cell? ⟨G, 0, none⟩ = some (.int .i64 r) ∧ w.cell? ⟨G, 1, none⟩ = some (.int .i64 g) ∧ w.cell? ⟨G, 2, none⟩ = some (.bool f) ∧ w.frozen? ⟨G, 0, none⟩ = false ∧ w.frozen? ⟨G, 1, none⟩ = false ∧ w.frozen? ⟨G, 2, none⟩ = false := by
  have fr : ∀ i, w.frozen? ⟨G, i, none⟩ = false := fun i => frozen_of_row _ _ _ _ _ h
  refine ⟨?_, ?_, ?_, fr 0, fr 1, fr 2⟩ <;> rw [cell_of_row _ _ _ _ _ _ h] <;> rfl
theorem set3row {W : World} {g : Nat} {p q r : Value} {t : TypeId} {old : Array Value} (h : W.heap[g]? = some (.cells old t (0, 0))) (h3 : old.size = 3) :
    ((W.setCell ⟨g, 0, none⟩ p).setCell ⟨g, 1, none⟩ q).setCell ⟨g, 2, none⟩ r = W.setRow g #[p, q, r] := by
  have h0 := setRow_heap W g old (old.setIfInBounds 0 p) t (0, 0) h
  rw [setCell_eq_setRow W g 0 old t (0, 0) p h, setCell_eq_setRow _ g 1 _ t (0, 0) q h0, setRow_setRow]
  have h1 := setRow_heap W g old ((old.setIfInBounds 0 p).setIfInBounds 1 q) t (0, 0) h
  rw [setCell_eq_setRow _ g 2 _ t (0, 0) r h1, setRow_setRow]
  congr 1
  obtain ⟨l⟩ := old
  match l, h3 with
  | [a, b, c], _ => rfl

theorem keepF {w w' : World} {B : Nat} {c : Cl} {v : Vl} {g i : Nat} {B' off : Nat} (h : w.heap[g]? = some (.cells (cv c v) 25 (0, 0))) (hc : CL w B c v) (hA : v.A2 = some ⟨B', off, none⟩) (hi : i < c.r.length) (hgB : B' < g + 1) (hb : Below (g + 1) w w') :
    w'.cell? ⟨g, 0, none⟩ = some (.bool c.f) ∧ w'.cell? ⟨g, 1, none⟩ = some (.slice v.A1 c.s.length v.c1) ∧ w'.cell? ⟨g, 2, none⟩ = some (.slice (some ⟨B', off, none⟩) c.r.length v.c2) ∧ w'.cell? ⟨g, 3, none⟩ = some (.slice v.A3 c.p.length v.c3) ∧
      w'.cell? ⟨B', off + i * 2, none⟩ = some (.int .i64 (((rd c.r i).1 : Nat) : Int)) := by
  obtain ⟨k0, k1, k2, k3⟩ := cvCells _ _ _ _ _ _ ((hb.block g (by omega)).trans h)
  obtain ⟨B2, off2, hA2, -, -, d0, d1⟩ := hc.r2.rep hi
  rw [hA] at hA2 k2
  cases hA2
  exact ⟨k0, k1, k2, k3, (hb.cell (p := ⟨B', _, none⟩) hgB).trans d0⟩

set_option maxRecDepth 100000 in
set_option maxHeartbeats 1000000 in
theorem answer_any (m B i : Nat) (c : Cl) (v : Vl) (w : World) (h : CL w B c v) (hok : Ok m c) (hm : m ≤ 100) (hi : i < c.r.length) :
    Calls Try.prog 74 #[.agg (cv c v), .int .i64 (i : Int)] w fun e w' => e = .returned (.agg (xc i ((rd c.r i).1 : Nat) (!acc c i 1))) ∧ Below w.heap.size w w' := by
  have HB0 := Lib.hid (box_below w (.cells (cv c v) 25))
  have HR0 := Lib.hid (heap_alloc_new w (.cells (cv c v) 25))
  have r2 := hok.r2
  obtain ⟨B', off, hA, -, hlt, -, -⟩ := h.r2.rep hi
  have hac : ∀ w', Below w.heap.size w w' → Calls Try.prog 29 #[.agg #[.bool c.f, .slice v.A1 c.s.length v.c1, .slice (some ⟨B', off, none⟩) c.r.length v.c2, .slice v.A3 c.p.length v.c3], .int .i64 (i : Int), .int .i64 1] w' fun e w'' => e = .returned (.bool (acc c i 1)) ∧ Below w'.heap.size w' w'' := fun w' hw => by
    have := Accepts_any m B i 1 c v w' (h.below hw) hok hm hi (.inl rfl)
    rw [cv, hA] at this
    exact this
  have HAC := Lib.hid hac
  have hrow : ((w.alloc (.cells (cv c v) 25)).alloc (.cells (xc 0 0 false) 67)).heap[w.heap.size]? = some (.cells (cv c v) 25 (0, 0)) := (heap_alloc_old _ _ (row_lt HR0.out)).trans HR0.out
  have hzr : ((w.alloc (.cells (cv c v) 25)).alloc (.cells (xc 0 0 false) 67)).heap[w.heap.size + 1]? = some (.cells (xc 0 0 false) 67 (0, 0)) := by
    have := heap_alloc_new (w.alloc (.cells (cv c v) 25)) (.cells (xc 0 0 false) 67)
    simpa using this
  have hbz := HB0.out.trans ((box_below (w.alloc (.cells (cv c v) 25)) (.cells (xc 0 0 false) 67)).mono (by simp))
  have HZ := Lib.hid hbz
  have HZR := Lib.hid hzr
  have HK := Lib.hid (fun w' (hb : Below (w.heap.size + 1) ((w.alloc (.cells (cv c v) 25)).alloc (.cells (xc 0 0 false) 67)) w') => keepF hrow (h.below hbz) hA hi (by omega) hb)
  clear h hac hok hrow hzr hbz
  have i0 : (0 : Int) ≤ (i : Int) := by omega
  have i1 : (i : Int) < (c.r.length : Int) := by omega
  generalize (rd c.r i).1 = g at *
  generalize acc c i 1 = ans at *
  go_enter Try.func74, Try.ntmps74
  go_wp2_with fail
  have hzz : (Obj.cells #[.int .i64 0, .int .i64 0, .bool false] 67) = Obj.cells (xc 0 0 false) 67 := rfl
  first | rw [hzz] | skip
  generalize (w.alloc (.cells (cv c v) 25)).alloc (.cells (xc 0 0 false) 67) = W0 at *
  have hgz : w.heap.size + 1 ≤ W0.heap.size := Nat.le_of_lt (row_lt HZR.out)
  have hbr : Below (w.heap.size + 1) W0 W0 := Below.refl _ _
  have hbd : Below (w.heap.size + 1) W0 W0.drew := hbr.drew
  clear hzz
  go_region_held3 (fun w' => w'.cell? ⟨w.heap.size, 0, none⟩ = some (.bool c.f) ∧ w'.cell? ⟨w.heap.size, 1, none⟩ = some (.slice v.A1 c.s.length v.c1) ∧ w'.cell? ⟨w.heap.size, 2, none⟩ = some (.slice (some ⟨B', off, none⟩) c.r.length v.c2) ∧ w'.cell? ⟨w.heap.size, 3, none⟩ = some (.slice v.A3 c.p.length v.c3) ∧
      w'.cell? ⟨B', off + i * 2, none⟩ = some (.int .i64 (g : Int)))
    (first | (with_reducible assumption) | (with_reducible exact HK.out _ hbr) | (with_reducible exact HK.out _ hbd) | (with_reducible exact HK.out _ hbw1) | exact HK.out _ (((hbw1.setCell (Nat.le_refl _) _).setCell (Nat.le_refl _) _).setCell (Nat.le_refl _) _))
    (first
      | (go_at_call 29; (with_reducible refine (HAC.out _ ?_).mono ?_); (exact HZ.out.trans (hbd.mono (Nat.le_succ _))); rintro e w1 ⟨rfl, hb1⟩; have hbw1 : Below (w.heap.size + 1) W0 w1 := hbd.trans (hb1.mono hgz); have z1 := Lib.hid ((hb1.block (w.heap.size + 1) (row_lt HZR.out)).trans HZR.out); obtain ⟨y0, y1, y2, y3, y4, y5⟩ := xcCells z1.out))
  rw [set3row z1.out rfl]
  go_wp2_with fail
  exact bodyPost_ret (v := .agg (xc i g (!ans))) (results_cell_row (fn := Try.f74) (p := 4) rfl _ _ (w.heap.size + 1) 67 (xc i g (!ans)) (0, 0) _ rfl (setRow_heap _ _ _ _ _ _ z1.out) Try.underlying67 rfl (info67 _ _ _)) rfl ⟨rfl, below_setRow (HZ.out.trans (hbw1.mono (Nat.le_succ _))) (Nat.le_succ _) _⟩

set_option maxRecDepth 100000 in
set_option maxHeartbeats 1000000 in
theorem ask_any (m B i : Nat) (c : Cl) (v : Vl) (w : World) (h : CL w B c v) (hok : Ok m c) (hm : m ≤ 100) (hi : i < c.r.length) :
    Calls Try.prog 41 #[.agg (cv c v), .int .i64 (i : Int)] w fun e w' => e = .returned (.tuple #[.agg (xc i ((rd c.r i).1 : Nat) (!acc c i 1)), .int .i64 0]) ∧ Below w.heap.size w w' := by
  have HB0 := Lib.hid (box_below w (.cells (cv c v) 25))
  have HR0 := Lib.hid (heap_alloc_new w (.cells (cv c v) 25))
  have r2 := hok.r2
  have hch : ∀ w', Below w.heap.size w w' → Calls Try.prog 21 #[.agg #[.bool c.f, .slice v.A1 c.s.length v.c1, .slice v.A2 c.r.length v.c2, .slice v.A3 c.p.length v.c3]] w' fun e w'' => e = .returned (.int .i64 0) ∧ Below w'.heap.size w' w'' := fun w' hw => check_any m B c v w' (h.below hw) hok hm
  have hac : ∀ w', Below w.heap.size w w' → Calls Try.prog 74 #[.agg #[.bool c.f, .slice v.A1 c.s.length v.c1, .slice v.A2 c.r.length v.c2, .slice v.A3 c.p.length v.c3], .int .i64 (i : Int)] w' fun e w'' => e = .returned (.agg (xc i ((rd c.r i).1 : Nat) (!acc c i 1))) ∧ Below w'.heap.size w' w'' := fun w' hw => answer_any m B i c v w' (h.below hw) hok hm hi
  have HCH := Lib.hid hch
  have HAC := Lib.hid hac
  have hrow : ((w.alloc (.cells (cv c v) 25)).alloc (.cells (xc 0 0 false) 67)).heap[w.heap.size]? = some (.cells (cv c v) 25 (0, 0)) := (heap_alloc_old _ _ (row_lt HR0.out)).trans HR0.out
  have hzr : ((w.alloc (.cells (cv c v) 25)).alloc (.cells (xc 0 0 false) 67)).heap[w.heap.size + 1]? = some (.cells (xc 0 0 false) 67 (0, 0)) := by
    have := heap_alloc_new (w.alloc (.cells (cv c v) 25)) (.cells (xc 0 0 false) 67)
    simpa using this
  have hbz := HB0.out.trans ((box_below (w.alloc (.cells (cv c v) 25)) (.cells (xc 0 0 false) 67)).mono (by simp))
  have HROW := Lib.hid hrow
  have HZR := Lib.hid hzr
  have HZ := Lib.hid hbz
  clear h hch hac hok hzr hbz
  have e1 : decide ((i : Int) < 0) = false := decide_eq_false (by omega)
  have e2 : decide ((c.r.length : Int) ≤ (i : Int)) = false := decide_eq_false (by omega)
  have e3 : decide (c.r.length ≤ i) = false := decide_eq_false (by omega)
  generalize (rd c.r i).1 = g at *
  generalize acc c i 1 = ans at *
  have hall := fun o => cvCells _ _ _ _ _ _ ((heap_alloc_old (w.alloc (.cells (cv c v) 25)) o (row_lt HR0.out)).trans HR0.out)
  have c0 := fun o => (hall o).1
  have c1 := fun o => (hall o).2.1
  have c2 := fun o => (hall o).2.2.1
  have c3 := fun o => (hall o).2.2.2
  clear hrow hall
  go_enter Try.func41, Try.ntmps41
  go_wp2_with fail
  refine (HCH.out _ HZ.out).mono ?_
  rintro e w1 ⟨rfl, hb1⟩
  have R1 := Lib.hid ((hb1.block w.heap.size (row_lt HROW.out)).trans HROW.out)
  have Z1 := Lib.hid ((hb1.block (w.heap.size + 1) (row_lt HZR.out)).trans HZR.out)
  have HB1 := Lib.hid (HZ.out.trans (hb1.mono HZ.out.size))
  clear hb1 c0 c1 c2 c3
  obtain ⟨c0, c1, c2, c3⟩ := cvCells _ _ _ _ _ _ R1.out
  go_wp2_with fail
  refine (HAC.out _ HB1.out).mono ?_
  rintro e w2 ⟨rfl, hb2⟩
  have Z2 := Lib.hid ((hb2.block (w.heap.size + 1) (row_lt Z1.out)).trans Z1.out)
  have HB2 := Lib.hid (HB1.out.trans (hb2.mono HB1.out.size))
  clear hb2 c0 c1 c2 c3
  go_wp2_with (refine wpList_store_row rfl 67 (.tmp 4) (.tmp 25) rfl (w.heap.size + 1) (xc i g (!ans)) rfl rfl 67 (xc 0 0 false) Z2.out (info67 _ _ _) rfl (xc_one _ _ _) ?_)
  exact bodyPost_ret (v := .tuple #[.agg (xc i g (!ans)), .int .i64 0]) (results_cell_row2 (fn := Try.f41) (p := 4) (u := 5) rfl _ _ (w.heap.size + 1) 67 (xc i g (!ans)) (0, 0) _ rfl (setRow_heap _ _ _ _ _ _ Z2.out) Try.underlying67 rfl (info67 _ _ _)) rfl ⟨rfl, below_setRow HB2.out (Nat.le_succ _) _⟩

end Go.Proofs.Ytamcjhibdcbdnaa.Cl
