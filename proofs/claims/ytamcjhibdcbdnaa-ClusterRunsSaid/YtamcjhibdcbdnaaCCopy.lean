import Derived.Test.YtamcjhibdcbdnaaCApp
import Derived.Test.YtamcjhibdcbdnaaCVal
import Derived.Deep.RegionHeld3
import Derived.Deep.AppendLies
namespace Go.Proofs.Ytamcjhibdcbdnaa.Cl
open Go.RowKit
open Go.Proofs.Ytamcjhibdcbdnaa.Tp
set_option linter.unusedVariables false

theorem info25 (c : Cl) (v : Vl) : (Try.prog.info? 25).map (·.size) = some (cv c v).size := by
  have h : (Try.prog.info? 25).map (·.size) = some 4 := by kernel_rfl
  exact h
theorem cv_one (c : Cl) (v : Vl) : (cv c v).all (·.oneCell') = true := by simp [cv, Value.oneCell']

theorem set4row {W : World} {g : Nat} {p q r s : Value} {t : TypeId} {old : Array Value} (h : W.heap[g]? = some (.cells old t (0, 0))) (h4 : old.size = 4) :
    (((W.setCell ⟨g, 0, none⟩ p).setCell ⟨g, 1, none⟩ q).setCell ⟨g, 2, none⟩ r).setCell ⟨g, 3, none⟩ s = W.setRow g #[p, q, r, s] := by
  have h0 := setRow_heap W g old (old.setIfInBounds 0 p) t (0, 0) h
  rw [setCell_eq_setRow W g 0 old t (0, 0) p h, setCell_eq_setRow _ g 1 _ t (0, 0) q h0, setRow_setRow]
  have h1 := setRow_heap W g old ((old.setIfInBounds 0 p).setIfInBounds 1 q) t (0, 0) h
  rw [setCell_eq_setRow _ g 2 _ t (0, 0) r h1, setRow_setRow]
  have h2 := setRow_heap W g old (((old.setIfInBounds 0 p).setIfInBounds 1 q).setIfInBounds 2 r) t (0, 0) h
  rw [setCell_eq_setRow _ g 3 _ t (0, 0) s h2, setRow_setRow]
  congr 1
  obtain ⟨l⟩ := old
  match l, h4 with
  | [a, b, c, d], _ => rfl

theorem below_setRow {B g : Nat} {a b : World} (h : Below B a b) (hg : B ≤ g) (cs : Array Value) : Below B a (b.setRow g cs) :=
  ⟨h.os, h.tape, h.output, by rw [setRow_size]; exact h.size, fun k hk => (setRow_other _ _ _ _ (by omega)).trans (h.block k hk)⟩

theorem Row.set {w : World} {B s n g : Nat} {A : Option Addr} {xs : List Value} (h : Row w B s A n xs) (hg : g < B) (cs : Array Value) : Row (w.setRow g cs) B s A n xs :=
  ⟨h.len, fun hn => by
    obtain ⟨b, off, e, hB, hlt, hc⟩ := h.mem hn
    exact ⟨b, off, e, hB, by rw [setRow_size]; exact hlt, fun j u hj => (cell_setRow_other _ _ _ _ (by show b ≠ g; omega)).trans (hc j u hj)⟩⟩

/-- A store of a cluster, as one step of a drawn region. -/
theorem store_step {ops : Array Oper} {o : Oper} {a : Act} {w : World} {K : Act → World → Prop} {Q : Exit → Act → World → Prop} {E : Prop} (hgd : o.guard = none) (x y : Operand) (ho : o.op = .store 25 x y) (g : Nat) (c : Cl) (v : Vl) (hx : a.eval x = .pointer (some ⟨g, 0, none⟩)) (hy : a.eval y = .agg (cv c v))
    (old : Array Value) (hg : w.heap[g]? = some (.cells old 25 (0, 0))) (hold : old.size = 4) (h : K (a.put o.dst undef) (w.setRow g (cv c v))) : if Region.wanted o (yielded ops a.tmps) = true then Oper.wp Try.prog o a w K Q else E := by
  have hw : Region.wanted o (yielded ops a.tmps) = true := by simp [Region.wanted, hgd]
  rw [if_pos hw]
  exact wp_store_row 25 x y ho g (cv c v) hx hy 25 old hg (info25 c v) hold (cv_one c v) h

def zC : Array Value := #[.bool false, .slice none 0 0, .slice none 0 0, .slice none 0 0]

theorem keepCv {W : World} {g : Nat} {c : Cl} {v : Vl} (h : W.heap[g]? = some (.cells (cv c v) 25 (0, 0))) (w' : World) (hb : Below (g + 1) W w') :
    w'.cell? ⟨g, 0, none⟩ = some (.bool c.f) ∧ w'.cell? ⟨g, 1, none⟩ = some (.slice v.A1 c.s.length v.c1) ∧ w'.cell? ⟨g, 2, none⟩ = some (.slice v.A2 c.r.length v.c2) ∧ w'.cell? ⟨g, 3, none⟩ = some (.slice v.A3 c.p.length v.c3) ∧ Below (g + 1) W w' := by
  obtain ⟨c0, c1, c2, c3⟩ := cvCells _ _ _ _ _ _ ((hb.block g (by omega)).trans h)
  exact ⟨c0, c1, c2, c3, hb⟩

theorem zCells {w : World} {g : Nat} (h : w.heap[g]? = some (.cells zC 25 (0, 0))) : w.cell? ⟨g, 0, none⟩ = some (.bool false) ∧ w.cell? ⟨g, 1, none⟩ = some (.slice none 0 0) ∧ w.cell? ⟨g, 2, none⟩ = some (.slice none 0 0) ∧ w.cell? ⟨g, 3, none⟩ = some (.slice none 0 0) ∧
    w.frozen? ⟨g, 0, none⟩ = false ∧ w.frozen? ⟨g, 1, none⟩ = false ∧ w.frozen? ⟨g, 2, none⟩ = false ∧ w.frozen? ⟨g, 3, none⟩ = false := by
  have f : ∀ i, w.frozen? ⟨g, i, none⟩ = false := fun i => frozen_of_row _ _ _ _ _ h
  refine ⟨?_, ?_, ?_, ?_, f 0, f 1, f 2, f 3⟩ <;> rw [cell_of_row _ _ _ _ _ _ h] <;> rfl

set_option maxRecDepth 100000 in
set_option maxHeartbeats 600000 in
theorem copy_any (m B : Nat) (c : Cl) (v : Vl) (w : World) (h : CL w B c v) (hok : Ok m c) (hm : m ≤ 100) :
    Calls Try.prog 57 #[.agg (cv c v)] w fun e w' => ∃ v', e = .returned (.agg (cv c v')) ∧ Own w' w.heap.size c v' ∧ Below w.heap.size w w' := by
  obtain ⟨s1, s2, r1, r2, p2, sb, rb, pb⟩ := hok
  have HB0 := Lib.hid (box_below w (.cells (cv c v) 25))
  have HR0 := Lib.hid (heap_alloc_new w (.cells (cv c v) 25))
  have HC := Lib.hid h
  clear h sb rb pb
  have hbz := (box_below w (.cells (cv c v) 25)).trans ((box_below (w.alloc (.cells (cv c v) 25)) (.cells zC 25)).mono (by simp))
  have hrow : ((w.alloc (.cells (cv c v) 25)).alloc (.cells zC 25)).heap[w.heap.size]? = some (.cells (cv c v) 25 (0, 0)) := (heap_alloc_old _ _ (row_lt HR0.out)).trans HR0.out
  have hzr : ((w.alloc (.cells (cv c v) 25)).alloc (.cells zC 25)).heap[w.heap.size + 1]? = some (.cells zC 25 (0, 0)) := by
    have := heap_alloc_new (w.alloc (.cells (cv c v) 25)) (.cells zC 25)
    simpa using this
  have HZ := Lib.hid hbz
  have HROW := Lib.hid hrow
  have HZR := Lib.hid hzr
  clear hbz hrow hzr
  have hsn : c.s.length ≤ 1000 := by omega
  have hrn : c.r.length ≤ 1000 := by omega
  have hpn : c.p.length ≤ 1000 := by omega
  go_enter Try.func57, Try.ntmps57
  go_wp2_with fail
  have hzz : (Obj.cells #[.bool false, .slice none 0 0, .slice none 0 0, .slice none 0 0] 25) = Obj.cells zC 25 := rfl
  rw [hzz]
  generalize (w.alloc (.cells (cv c v) 25)).alloc (.cells zC 25) = W0 at *
  have hgz : w.heap.size + 1 ≤ W0.heap.size := Nat.le_of_lt (row_lt HZR.out)
  have hbr : Below (w.heap.size + 1) W0 W0 := Below.refl _ _
  have hbd : Below (w.heap.size + 1) W0 W0.drew := hbr.drew
  have HK := Lib.hid (keepCv (c := c) (v := v) HROW.out)
  have HCL := Lib.hid (fun w' (hb : Below (w.heap.size + 1) W0 w') => HC.out.below (HZ.out.trans (hb.mono (Nat.le_succ _))))
  go_region_held3 (fun w' => w'.cell? ⟨w.heap.size, 0, none⟩ = some (.bool c.f) ∧ w'.cell? ⟨w.heap.size, 1, none⟩ = some (.slice v.A1 c.s.length v.c1) ∧ w'.cell? ⟨w.heap.size, 2, none⟩ = some (.slice v.A2 c.r.length v.c2) ∧ w'.cell? ⟨w.heap.size, 3, none⟩ = some (.slice v.A3 c.p.length v.c3) ∧ Below (w.heap.size + 1) W0 w')
    (first | (with_reducible exact HK.out _ hbr) | (with_reducible exact HK.out _ hbd) | (with_reducible exact HK.out _ hbw1) | (with_reducible exact HK.out _ hbw2) | (with_reducible exact HK.out _ hbw3) | (with_reducible exact HK.out _ hbw1.drew) | (with_reducible exact HK.out _ hbw2.drew) | (with_reducible exact HK.out _ hbw3.drew) | exact HK.out _ ((((hbw3.setCell (Nat.le_refl _) _).setCell (Nat.le_refl _) _).setCell (Nat.le_refl _) _).setCell (Nat.le_refl _) _) | (go_loud (fail "KEEP")))
    (first
      | ((refine nil_step3 (by rfl) _ (.tmp 6) 0 (by rfl) (by rfl) v.A1 c.s.length v.c1 c.s (by rfl) ((HCL.out _ hbd).r1.base (Nat.zero_le _)) hsn ?_); (intro A1 c1 w1 hr1 hb1; have hbw1 : Below (w.heap.size + 1) W0 w1 := hbd.trans (hb1.mono hgz); have z1 := Lib.hid ((hb1.block (w.heap.size + 1) (row_lt HZR.out)).trans HZR.out); have l1 : w.heap.size + 1 ≤ w1.heap.size := Nat.le_trans hgz hb1.size; have R1 := Lib.hid hr1; clear hr1))
      | ((refine nil_step60 (by rfl) _ (.tmp 9) 0 (by rfl) (by rfl) v.A2 c.r.length v.c2 c.r (by rfl) ((HCL.out _ hbw1).r2.base (Nat.zero_le _)) hrn ?_); (intro A2 c2 w2 hr2 hb2; have hbw2 : Below (w.heap.size + 1) W0 w2 := hbw1.trans (hb2.mono l1); have l2 : w.heap.size + 1 ≤ w2.heap.size := Nat.le_trans l1 hb2.size; have z2 := Lib.hid ((hb2.block (w.heap.size + 1) (row_lt z1.out)).trans z1.out); have R2 := Lib.hid hr2; clear hr2))
      | ((refine nil_step3 (by rfl) _ (.tmp 12) 0 (by rfl) (by rfl) v.A3 c.p.length v.c3 c.p (by rfl) ((HCL.out _ hbw2).r3.base (Nat.zero_le _)) hpn ?_); (intro A3 c3 w3 hr3 hb3; have hbw3 : Below (w.heap.size + 1) W0 w3 := hbw2.trans (hb3.mono l2); have z3 := (hb3.block (w.heap.size + 1) (row_lt z2.out)).trans z2.out; have Z3 := Lib.hid z3; have R3 := Lib.hid hr3; obtain ⟨y0, y1, y2, y3, y4, y5, y6, y7⟩ := zCells z3; clear hr3 z3))
      | (go_loud (fail "X")))
  rw [set4row Z3.out rfl]
  go_wp2_with fail
  refine bodyPost_ret (v := .agg (cv c ⟨A1, c1, A2, c2, A3, c3⟩)) (results_cell_row rfl _ _ (w.heap.size + 1) 25 (cv c ⟨A1, c1, A2, c2, A3, c3⟩) (0, 0) _ rfl (setRow_heap _ _ _ _ _ _ Z3.out) Try.underlying25 rfl (info25 _ _)) rfl ⟨⟨A1, c1, A2, c2, A3, c3⟩, rfl, ?_, ?_⟩
  · have q1 : w.heap.size + 1 < W0.heap.size := row_lt HZR.out
    have q2 : w.heap.size + 1 < w1.heap.size := row_lt z1.out
    have q3 : w.heap.size + 1 < w2.heap.size := row_lt z2.out
    refine ⟨own_base (own_set (own_below (own_below R1.out hb2) hb3) q1 _) (by show w.heap.size ≤ W0.heap.size; omega), own_base (own_set (own_below R2.out hb3) q2 _) (by omega), own_base (own_set R3.out q3 _) (by omega), fun g h1 h2 => ?_⟩
    have k1 := (R1.out.lt g h1).2
    have k2 := (R3.out.lt g h2).1
    have k3 := hb2.size
    omega
  · exact below_setRow (HZ.out.trans (hbw3.mono (Nat.le_succ _))) (Nat.le_succ _) _

end Go.Proofs.Ytamcjhibdcbdnaa.Cl
