import Derived.Test.YtamcjhibdcbdnaaCRef0
import Derived.Test.YtamcjhibdcbdnaaCPick
import Derived.IntWalk
import Derived.Deep.RegionHeld3
namespace Go.Proofs.Ytamcjhibdcbdnaa.Cl
open Go.RowKit
open Go.Proofs.Ytamcjhibdcbdnaa.Tp
set_option linter.unusedVariables false

def EPost (T : Nat) (c : Cl) (w : World) (e : Ending) (w' : World) : Prop := ∃ x : Ev, Good c x ∧ e = .returned (.agg (ec x.k x.i x.q x.b)) ∧ w.grownBy w' (some T) ∧ TapeOk w' T

theorem tape_new2 {w : World} {T : Nat} (h : TapeOk w T) (o : Obj) : TapeOk (w.alloc o) T := tape_below h (box_below w o)

theorem lits_row (W : World) (G : Nat) (hG : W.heap.size = G) (l : List Nat) (cs : Array Value) (h : cs.toList = iv l) (t : TypeId) : Row (W.alloc (.cells cs t)) G 1 (some ⟨G, 0, none⟩) l.length (iv l) := by
  subst hG
  refine ⟨iv_len l, fun _ => ⟨W.heap.size, 0, rfl, Nat.le_refl _, by simp, fun j u hj => ?_⟩⟩
  rw [Nat.zero_add, cell_of_row _ _ _ _ _ _ (heap_alloc_new W (.cells cs t))]
  rw [← h] at hj
  simpa using hj

theorem ec_set1 (k i q b z : Int) : (ec k i q b).setIfInBounds 1 (.int .i64 z) = ec k z q b := rfl
theorem ec_set3 (k i q b z : Int) : (ec k i q b).setIfInBounds 3 (.int .i64 z) = ec k i q z := rfl

theorem set_far {W : World} {g G k i : Nat} {u : Value} {x : Option Value} (h : W.cell? ⟨g, k, none⟩ = x) (hne : g ≠ G) : (W.setCell ⟨G, i, none⟩ u).cell? ⟨g, k, none⟩ = x :=
  (World.cell?_setCell_other _ _ _ _ (fun e => hne (by injection e with e1; exact e1.symm))).trans h
theorem gb_far {a b : World} {T g : Nat} (h : a.grownBy b (some T)) (hg : a.heap.size ≤ g) (cs : Array Value) : a.grownBy (b.setRow g cs) (some T) :=
  ⟨h.os, h.tape, h.output, by rw [setRow_size]; exact h.size, fun k hk hne => (setRow_other _ _ _ _ (by omega)).trans (h.block k hk hne)⟩
theorem tape_set {w : World} {T g : Nat} (h : TapeOk w T) (hg : T < g) (cs : Array Value) : TapeOk (w.setRow g cs) T :=
  tape_kept h (gb_setRow w g cs) (fun k e => by cases e; exact hg)

set_option maxRecDepth 100000 in
set_option maxHeartbeats 1000000 in
theorem event_any (T m : Nat) (c : Cl) (v : Vl) (w : World) (h : TapeOk w T) (hT : T < w.heap.size) (hok : Ok m c) (hm : m ≤ 90) :
    Calls Try.prog 23 #[.pointer (some ⟨T, 0, none⟩), .agg (cv c v)] w (EPost T c w) := by
  obtain ⟨s1, s2, r1, r2, p2, sb, rb, pb⟩ := hok
  clear sb rb pb
  have HT := Lib.hid h
  have HB0 := Lib.hid ((box_below w (.cells (cv c v) 25)).trans ((box_below (w.alloc (.cells (cv c v) 25)) (.cells (ec 0 0 0 0) 27)).mono (by simp)))
  have a1 := Lib.hid ((heap_alloc_old (w.alloc (.cells (cv c v) 25)) (.cells (ec 0 0 0 0) 27) (by simp)).trans (heap_alloc_new w (.cells (cv c v) 25)))
  have a2 := heap_alloc_new (w.alloc (.cells (cv c v) 25)) (.cells (ec 0 0 0 0) 27)
  rw [show (w.alloc (.cells (cv c v) 25)).heap.size = w.heap.size + 1 by simp] at a2
  have A2 := Lib.hid a2
  have hT0 := Lib.hid (tape_new2 (tape_new2 h (.cells (cv c v) 25)) (.cells (ec 0 0 0 0) 27))
  clear h a2
  go_enter Try.func23, Try.ntmps23
  go_wp2_with fail
  refine (between_any T 1 4 _ hT0.out (by omega) (by omega) (by omega) (by omega)).mono ?_
  rintro e w1 ⟨r, hr0, hr1, rfl, hg1, ht1⟩
  obtain ⟨k, rfl⟩ : ∃ k : Nat, r = k := ⟨r.toNat, by omega⟩
  have B1 := Lib.hid ((hg1.block w.heap.size (row_lt a1.out) (by simp; omega)).trans a1.out)
  have B2 := Lib.hid ((hg1.block (w.heap.size + 1) (row_lt A2.out) (by simp; omega)).trans A2.out)
  have hga := gb_of_below HB0.out
  have HG1 := Lib.hid (gb_trans (gb_row hga : w.grownBy _ (some T)) hg1)
  have HT1 := Lib.hid ht1
  have l1 : w.heap.size + 1 < w1.heap.size := row_lt B2.out
  clear hg1 ht1 hga
  have hnew := heap_alloc_new w1 (.cells (ec k 0 0 0) 27)
  obtain ⟨y0, y1, y2, y3⟩ := ecCells hnew
  have HNEW := Lib.hid hnew
  have HTN := Lib.hid (tape_new2 HT1.out (.cells (ec k 0 0 0) 27))
  have HGN := Lib.hid (gb_trans HG1.out (gb_row (gb_of_below (box_below w1 (.cells (ec k 0 0 0) 27)))))
  have C1 := Lib.hid ((heap_alloc_old w1 (.cells (ec k 0 0 0) 27) (row_lt B1.out)).trans B1.out)
  have C2 := Lib.hid ((heap_alloc_old w1 (.cells (ec k 0 0 0) 27) (row_lt B2.out)).trans B2.out)
  clear hnew
  have hlN : w1.heap.size < (w1.alloc (.cells (ec k 0 0 0) 27)).heap.size := row_lt HNEW.out
  rcases (by omega : k = 1 ∨ k = 4 ∨ (k = 2 ∨ k = 3)) with rfl | rfl | (rfl | rfl)
  · have hzY : (w1.alloc (.cells (ec 1 0 0 0) 27)).heap.size = w1.heap.size + 1 := by simp
    have hrow := lits_row (w1.alloc (.cells (ec 1 0 0 0) 27)) (w1.heap.size + 1) hzY [1, 2, 2, 3, 0] #[.int .i64 1, .int .i64 2, .int .i64 2, .int .i64 3, .int .i64 0] rfl 3
    have htp := tape_new2 HTN.out (.cells #[.int .i64 1, .int .i64 2, .int .i64 2, .int .i64 3, .int .i64 0] 3)
    have HROW := Lib.hid hrow
    have HTP := Lib.hid htp
    clear hrow htp
    go_wp2_with fail
    refine (pick_any T (w1.heap.size + 1) 5 5 _ [1, 2, 2, 3, 0] _ HTP.out HROW.out (by omega) (by omega) (by omega)).mono ?_
    rintro e W2 ⟨r, hr, rfl, hg2, ht2⟩
    have hbits : [1, 2, 2, 3, 0].getD r 0 ≤ 3 := by
      rcases (by simp at hr; omega : r = 0 ∨ r = 1 ∨ r = 2 ∨ r = 3 ∨ r = 4) with rfl | rfl | rfl | rfl | rfl <;> decide
    generalize [1, 2, 2, 3, 0].getD r 0 = z at *
    have hla := box_below (w1.alloc (.cells (ec 1 0 0 0) 27)) (.cells #[.int .i64 1, .int .i64 2, .int .i64 2, .int .i64 3, .int .i64 0] 3)
    have hgp := gb_trans (gb_row (gb_of_below hla) : _) hg2
    have D2 := Lib.hid ((hgp.block (w.heap.size + 1) (row_lt C2.out) (by simp; omega)).trans C2.out)
    have DY := Lib.hid ((hgp.block w1.heap.size (row_lt HNEW.out) (by simp; omega)).trans HNEW.out)
    have HG2 := Lib.hid (gb_trans HGN.out hgp)
    have HT2 := Lib.hid ht2
    clear hg2 ht2 hla hgp y0 y1 y2 y3
    obtain ⟨y0, y1, y2, y3⟩ := ecCells DY.out
    have fy : ∀ j, W2.frozen? ⟨w1.heap.size, j, none⟩ = false := fun j => frozen_of_row _ _ _ _ _ DY.out
    obtain ⟨W3, hW3⟩ : ∃ W3, W2.setCell ⟨w1.heap.size, 3, none⟩ (.int .i64 (z : Int)) = W3 := ⟨_, rfl⟩
    have E3W : W3 = W2.setRow w1.heap.size (ec 1 0 0 z) := by rw [← hW3]; exact setCell_eq_setRow _ _ _ _ _ _ _ DY.out
    have e3 : W3 = W2.setRow w1.heap.size (ec 1 0 0 z) := E3W
    clear E3W
    have D2' := Lib.hid (show W3.heap[w.heap.size + 1]? = some (.cells (ec 0 0 0 0) 27 (0, 0)) by rw [e3]; exact (setRow_other _ _ _ _ (by omega)).trans D2.out)
    have DY' := Lib.hid (show W3.heap[w1.heap.size]? = some (.cells (ec 1 0 0 z) 27 (0, 0)) by rw [e3]; exact setRow_heap _ _ _ _ _ _ DY.out)
    have HG3 := Lib.hid (show w.grownBy W3 (some T) by rw [e3]; exact gb_far HG2.out (by omega) _)
    have HT3 := Lib.hid (show TapeOk W3 T by rw [e3]; exact tape_set HT2.out (by omega) _)
    clear e3
    obtain ⟨v0, v1, v2, v3⟩ := ecCells DY'.out
    obtain ⟨z0, z1, z2, z3⟩ := ecCells D2'.out
    have zf : ∀ j, W3.frozen? ⟨w.heap.size + 1, j, none⟩ = false := fun j => frozen_of_row _ _ _ _ _ D2'.out
    go_wp2_with fail
    rw [set4row (g := w.heap.size + 1) D2'.out rfl]
    refine bodyPost_ret (v := .agg (ec 1 0 0 z)) (results_cell_row (fn := Try.f23) (p := 4) rfl _ _ (w.heap.size + 1) 27 (ec 1 0 0 z) (0, 0) _ rfl (setRow_heap _ _ _ _ _ _ D2'.out) Try.underlying27 rfl (info27 _ _ _ _)) rfl ⟨⟨1, 0, 0, z⟩, .inl ⟨rfl, rfl, rfl, hbits⟩, rfl, gb_far HG3.out (by omega) _, tape_set HT3.out (by omega) _⟩
  · have x2 : ∀ o, (w1.alloc o).cell? ⟨w.heap.size, 2, none⟩ = some (.slice v.A2 c.r.length v.c2) := fun o => (World.cell?_alloc_lt _ _ _ (row_lt B1.out)).trans (cvCells _ _ _ _ _ _ B1.out).2.2.1
    have x3 : ∀ o, (w1.alloc o).cell? ⟨w.heap.size, 3, none⟩ = some (.slice v.A3 c.p.length v.c3) := fun o => (World.cell?_alloc_lt _ _ _ (row_lt B1.out)).trans (cvCells _ _ _ _ _ _ B1.out).2.2.2
    have hlp : IntKind.i64.wrap ((c.p.length : Int) + 1) = (c.p.length : Int) + 1 := IntWalk.i64_in _ (by omega)
    have q1 : (0 : Int) ≤ (c.p.length : Int) + 1 := by omega
    have HX := Lib.hid (fun (w' : World) (hg : (w1.alloc (.cells (ec 4 0 0 0) 27)).grownBy w' (some T)) => (hg.block w.heap.size (row_lt C1.out) (by simp; omega)).trans C1.out)
    have HX2 := Lib.hid (fun (w' : World) (hg : (w1.alloc (.cells (ec 4 0 0 0) 27)).grownBy w' (some T)) => (hg.block w1.heap.size (row_lt HNEW.out) (by simp; omega)).trans HNEW.out)
    have hn1 := fun w' (ht : TapeOk w' T) => next_any T c.r.length w' ht (by omega) (by omega)
    have hn2 := fun w' (ht : TapeOk w' T) => next_any T ((c.p.length : Int) + 1) w' ht (by omega) (by omega)
    have hne : w.heap.size ≠ w1.heap.size := by omega
    have HN1 := Lib.hid hn1
    have HN2 := Lib.hid hn2
    clear hn1 hn2
    go_wp2_with fail
    go_region_held3 (fun w' => w'.cell? ⟨w.heap.size, 2, none⟩ = some (.slice v.A2 c.r.length v.c2) ∧ w'.cell? ⟨w.heap.size, 3, none⟩ = some (.slice v.A3 c.p.length v.c3))
      (first | assumption | (exact ⟨x2 _, x3 _⟩) | (exact ⟨k2a, k3a⟩) | (exact ⟨k2b, k3b⟩) | (exact ⟨set_far k2b hne, set_far k3b hne⟩) | (exact ⟨set_far (set_far k2b hne) hne, set_far (set_far k3b hne) hne⟩) | (go_loud (fail "KEEP")))
      (first
        | (go_at_call 14; (with_reducible refine (HN1.out _ ?_).mono ?_); (exact HTN.out); rintro e wa ⟨r, hr0, hr1, rfl, hga, hta⟩; obtain ⟨z, rfl⟩ : ∃ z : Nat, r = z := ⟨r.toNat, by omega⟩; have hga1 := gb_undrew hga; have GA := Lib.hid hga1; have TA := Lib.hid hta; obtain ⟨k0a, k1a, k2a, k3a⟩ := cvCells _ _ _ _ _ _ (HX.out _ hga1); clear hga hta hga1 k0a k1a)
        | (go_at_call 14; (with_reducible refine (HN2.out _ ?_).mono ?_); (exact TA.out); rintro e wb ⟨r2, hs0, hs1, rfl, hgb, htb⟩; obtain ⟨y, rfl⟩ : ∃ y : Nat, r2 = y := ⟨r2.toNat, by omega⟩; have GB := Lib.hid (gb_trans GA.out hgb); have TB := Lib.hid htb; obtain ⟨k0b, k1b, k2b, k3b⟩ := cvCells _ _ _ _ _ _ (HX.out _ GB.out); obtain ⟨y0', y1', y2', y3'⟩ := ecCells (HX2.out _ GB.out); have fy : ∀ j, wb.frozen? ⟨w1.heap.size, j, none⟩ = false := (fun j => frozen_of_row _ _ _ _ _ (HX2.out _ GB.out)); clear hgb htb k0b k1b)
        | (go_loud (fail "X")))
    have D2 := Lib.hid ((GB.out.block (w.heap.size + 1) (row_lt C2.out) (by simp; omega)).trans C2.out)
    have DY := Lib.hid (HX2.out _ GB.out)
    have HG2 := Lib.hid (gb_trans HGN.out GB.out)
    have HT2 := TB
    clear y0 y1 y2 y3
    clear fy
    obtain ⟨W2, hW2⟩ : ∃ W2, wb = W2 := ⟨_, rfl⟩
    rw [hW2] at D2 DY HG2 HT2
    obtain ⟨W3, hW3⟩ : ∃ W3, (wb.setCell ⟨w1.heap.size, 1, none⟩ (.int .i64 (z : Int))).setCell ⟨w1.heap.size, 2, none⟩ (.int .i64 (y : Int)) = W3 := ⟨_, rfl⟩
    have hzr : z < c.r.length := by omega
    have hyp : y ≤ c.p.length := by omega
    have E3W : W3 = W2.setRow w1.heap.size (ec 4 z y 0) := by
      rw [← hW3, hW2, setCell_eq_setRow _ _ _ _ _ _ _ DY.out]
      rw [setCell_eq_setRow _ _ _ _ _ _ _ (setRow_heap _ _ _ _ _ _ DY.out), setRow_setRow]
      rfl
    rw [hW3]
    clear hW3 hW2 k2a k3a k2b k3b x2 x3 y0' y1' y2' y3'
    have e3 : W3 = W2.setRow w1.heap.size (ec 4 z y 0) := E3W
    clear E3W
    have D2' := Lib.hid (show W3.heap[w.heap.size + 1]? = some (.cells (ec 0 0 0 0) 27 (0, 0)) by rw [e3]; exact (setRow_other _ _ _ _ (by omega)).trans D2.out)
    have DY' := Lib.hid (show W3.heap[w1.heap.size]? = some (.cells (ec 4 z y 0) 27 (0, 0)) by rw [e3]; exact setRow_heap _ _ _ _ _ _ DY.out)
    have HG3 := Lib.hid (show w.grownBy W3 (some T) by rw [e3]; exact gb_far HG2.out (by omega) _)
    have HT3 := Lib.hid (show TapeOk W3 T by rw [e3]; exact tape_set HT2.out (by omega) _)
    clear e3
    obtain ⟨v0, v1, v2, v3⟩ := ecCells DY'.out
    obtain ⟨z0, z1, z2, z3⟩ := ecCells D2'.out
    have zf : ∀ j, W3.frozen? ⟨w.heap.size + 1, j, none⟩ = false := fun j => frozen_of_row _ _ _ _ _ D2'.out
    go_wp2_with fail
    rw [set4row (g := w.heap.size + 1) D2'.out rfl]
    refine bodyPost_ret (v := .agg (ec 4 z y 0)) (results_cell_row (fn := Try.f23) (p := 4) rfl _ _ (w.heap.size + 1) 27 (ec 4 z y 0) (0, 0) _ rfl (setRow_heap _ _ _ _ _ _ D2'.out) Try.underlying27 rfl (info27 _ _ _ _)) rfl ⟨⟨4, z, y, 0⟩, .inr (.inr (.inr ⟨rfl, hzr, hyp, rfl⟩)), rfl, gb_far HG3.out (by omega) _, tape_set HT3.out (by omega) _⟩
  · have x2 : ∀ o, (w1.alloc o).cell? ⟨w.heap.size, 2, none⟩ = some (.slice v.A2 c.r.length v.c2) := fun o => (World.cell?_alloc_lt _ _ _ (row_lt B1.out)).trans (cvCells _ _ _ _ _ _ B1.out).2.2.1
    go_wp2_with fail
    refine (next_any T c.r.length _ HTN.out (by omega) (by omega)).mono ?_
    rintro e W2 ⟨r, hr0, hr1, rfl, hg2, ht2⟩
    obtain ⟨z, rfl⟩ : ∃ z : Nat, r = z := ⟨r.toNat, by omega⟩
    have hzr : z < c.r.length := by omega
    have D2 := Lib.hid ((hg2.block (w.heap.size + 1) (row_lt C2.out) (by simp; omega)).trans C2.out)
    have DY := Lib.hid ((hg2.block w1.heap.size (row_lt HNEW.out) (by simp; omega)).trans HNEW.out)
    have HG2 := Lib.hid (gb_trans HGN.out hg2)
    have HT2 := Lib.hid ht2
    clear hg2 ht2 y0 y1 y2 y3 x2
    obtain ⟨y0, y1, y2, y3⟩ := ecCells DY.out
    have fy : ∀ j, W2.frozen? ⟨w1.heap.size, j, none⟩ = false := fun j => frozen_of_row _ _ _ _ _ DY.out
    obtain ⟨W3, hW3⟩ : ∃ W3, W2.setCell ⟨w1.heap.size, 1, none⟩ (.int .i64 (z : Int)) = W3 := ⟨_, rfl⟩
    have E3W : W3 = W2.setRow w1.heap.size (ec 2 z 0 0) := by rw [← hW3]; exact setCell_eq_setRow _ _ _ _ _ _ _ DY.out
    have e3 : W3 = W2.setRow w1.heap.size (ec 2 z 0 0) := E3W
    clear E3W
    have D2' := Lib.hid (show W3.heap[w.heap.size + 1]? = some (.cells (ec 0 0 0 0) 27 (0, 0)) by rw [e3]; exact (setRow_other _ _ _ _ (by omega)).trans D2.out)
    have DY' := Lib.hid (show W3.heap[w1.heap.size]? = some (.cells (ec 2 z 0 0) 27 (0, 0)) by rw [e3]; exact setRow_heap _ _ _ _ _ _ DY.out)
    have HG3 := Lib.hid (show w.grownBy W3 (some T) by rw [e3]; exact gb_far HG2.out (by omega) _)
    have HT3 := Lib.hid (show TapeOk W3 T by rw [e3]; exact tape_set HT2.out (by omega) _)
    clear e3
    obtain ⟨v0, v1, v2, v3⟩ := ecCells DY'.out
    obtain ⟨z0, z1, z2, z3⟩ := ecCells D2'.out
    have zf : ∀ j, W3.frozen? ⟨w.heap.size + 1, j, none⟩ = false := fun j => frozen_of_row _ _ _ _ _ D2'.out
    go_wp2_with fail
    rw [set4row (g := w.heap.size + 1) D2'.out rfl]
    refine bodyPost_ret (v := .agg (ec 2 z 0 0)) (results_cell_row (fn := Try.f23) (p := 4) rfl _ _ (w.heap.size + 1) 27 (ec 2 z 0 0) (0, 0) _ rfl (setRow_heap _ _ _ _ _ _ D2'.out) Try.underlying27 rfl (info27 _ _ _ _)) rfl ⟨⟨2, z, 0, 0⟩, .inr (.inl ⟨rfl, hzr, rfl, rfl⟩), rfl, gb_far HG3.out (by omega) _, tape_set HT3.out (by omega) _⟩
  · have x2 : ∀ o, (w1.alloc o).cell? ⟨w.heap.size, 2, none⟩ = some (.slice v.A2 c.r.length v.c2) := fun o => (World.cell?_alloc_lt _ _ _ (row_lt B1.out)).trans (cvCells _ _ _ _ _ _ B1.out).2.2.1
    go_wp2_with fail
    refine (next_any T c.r.length _ HTN.out (by omega) (by omega)).mono ?_
    rintro e W2 ⟨r, hr0, hr1, rfl, hg2, ht2⟩
    obtain ⟨z, rfl⟩ : ∃ z : Nat, r = z := ⟨r.toNat, by omega⟩
    have hzr : z < c.r.length := by omega
    have D2 := Lib.hid ((hg2.block (w.heap.size + 1) (row_lt C2.out) (by simp; omega)).trans C2.out)
    have DY := Lib.hid ((hg2.block w1.heap.size (row_lt HNEW.out) (by simp; omega)).trans HNEW.out)
    have HG2 := Lib.hid (gb_trans HGN.out hg2)
    have HT2 := Lib.hid ht2
    clear hg2 ht2 y0 y1 y2 y3 x2
    obtain ⟨y0, y1, y2, y3⟩ := ecCells DY.out
    have fy : ∀ j, W2.frozen? ⟨w1.heap.size, j, none⟩ = false := fun j => frozen_of_row _ _ _ _ _ DY.out
    obtain ⟨W3, hW3⟩ : ∃ W3, W2.setCell ⟨w1.heap.size, 1, none⟩ (.int .i64 (z : Int)) = W3 := ⟨_, rfl⟩
    have E3W : W3 = W2.setRow w1.heap.size (ec 3 z 0 0) := by rw [← hW3]; exact setCell_eq_setRow _ _ _ _ _ _ _ DY.out
    have e3 : W3 = W2.setRow w1.heap.size (ec 3 z 0 0) := E3W
    clear E3W
    have D2' := Lib.hid (show W3.heap[w.heap.size + 1]? = some (.cells (ec 0 0 0 0) 27 (0, 0)) by rw [e3]; exact (setRow_other _ _ _ _ (by omega)).trans D2.out)
    have DY' := Lib.hid (show W3.heap[w1.heap.size]? = some (.cells (ec 3 z 0 0) 27 (0, 0)) by rw [e3]; exact setRow_heap _ _ _ _ _ _ DY.out)
    have HG3 := Lib.hid (show w.grownBy W3 (some T) by rw [e3]; exact gb_far HG2.out (by omega) _)
    have HT3 := Lib.hid (show TapeOk W3 T by rw [e3]; exact tape_set HT2.out (by omega) _)
    clear e3
    obtain ⟨v0, v1, v2, v3⟩ := ecCells DY'.out
    obtain ⟨z0, z1, z2, z3⟩ := ecCells D2'.out
    have zf : ∀ j, W3.frozen? ⟨w.heap.size + 1, j, none⟩ = false := fun j => frozen_of_row _ _ _ _ _ D2'.out
    go_wp2_with fail
    rw [set4row (g := w.heap.size + 1) D2'.out rfl]
    refine bodyPost_ret (v := .agg (ec 3 z 0 0)) (results_cell_row (fn := Try.f23) (p := 4) rfl _ _ (w.heap.size + 1) 27 (ec 3 z 0 0) (0, 0) _ rfl (setRow_heap _ _ _ _ _ _ D2'.out) Try.underlying27 rfl (info27 _ _ _ _)) rfl ⟨⟨3, z, 0, 0⟩, .inr (.inr (.inl ⟨rfl, hzr, rfl, rfl⟩)), rfl, gb_far HG3.out (by omega) _, tape_set HT3.out (by omega) _⟩

end Go.Proofs.Ytamcjhibdcbdnaa.Cl
