import Derived.Test.YtgknfkmojhganaaGreatAcF
import Derived.Test.YtgknfkmojhganaaGreatDjD
import Derived.Deep.RegionLaw
import Derived.StillTailTactics
import Derived.Deep.CutBlock
namespace Go.Proofs.YtgknfkmojhganaaGreat.Di
open Go.RowKit
open Go.Proofs.YtgknfkmojhganaaGreat.Tp
set_option linter.unusedVariables false

/-- Estates that the maker gives. -/
structure MkE (a : Es) : Prop where
  ok : Eok a
  n4 : a.n ≤ 4
  m15 : a.e.length ≤ 15
  t : ∀ j, j < a.e.length → (ag a.e j).t ≤ 1000
def EsPost (T : Nat) (w : World) (e : Ending) (w' : World) : Prop := ∃ (a : Es) (v : Ve), e = .returned (.agg (ge a v)) ∧ MkE a ∧ EL w' w.heap.size a v ∧ w.grownBy w' (some T) ∧ TapeOk w' T
/-- An estate without anything. -/
def zE : Array Value := #[.int .i64 0, .slice none 0 0]
theorem zeCells {w : World} {g : Nat} (h : w.heap[g]? = some (.cells zE 28 (0, 0))) : w.cell? ⟨g, 0, none⟩ = some (.int .i64 0) ∧ w.cell? ⟨g, 1, none⟩ = some (.slice none 0 0) ∧ w.frozen? ⟨g, 0, none⟩ = false ∧ w.frozen? ⟨g, 1, none⟩ = false := by
  refine ⟨?_, ?_, frozen_of_row _ _ _ _ _ h, frozen_of_row _ _ _ _ _ h⟩ <;> rw [cell_of_row _ _ _ _ _ _ h] <;> rfl
theorem ze_one : zE.all (·.oneCell') = true := by simp [zE, Value.oneCell']
theorem infozE : (Tryz.prog.info? 28).map (·.size) = some zE.size := by
  have h : (Tryz.prog.info? 28).map (·.size) = some 2 := by kernel_rfl
  exact h
def ten : List Nat := [1, 1, 2, 3, 4, 5, 5, 6, 7, 7]
theorem ten_rng : ∀ z, z < 10 → 1 ≤ ten.getD z 0 ∧ ten.getD z 0 ≤ 7 := by
  intro z hz
  rcases (by omega : z = 0 ∨ z = 1 ∨ z = 2 ∨ z = 3 ∨ z = 4 ∨ z = 5 ∨ z = 6 ∨ z = 7 ∨ z = 8 ∨ z = 9) with rfl | rfl | rfl | rfl | rfl | rfl | rfl | rfl | rfl | rfl <;> decide

theorem at1 (W : World) (o o' : Obj) : ((W.alloc o).alloc o').heap[W.heap.size]? = some o := (heap_alloc_old _ _ (by simp)).trans (heap_alloc_new W o)
theorem at2 (W : World) (o o' : Obj) : ((W.alloc o).alloc o').heap[W.heap.size + 1]? = some o' := by
  have := heap_alloc_new (W.alloc o) o'
  rwa [show (W.alloc o).heap.size = W.heap.size + 1 by simp] at this
theorem lits_at {W : World} {G B : Nat} {cs : Array Value} {l : List Nat} (h : W.heap[G]? = some (.cells cs 3 (0, 0))) (hB : B ≤ G) (hl : cs.toList = iv l) : Row W B 1 (some ⟨G, 0, none⟩) l.length (iv l) :=
  ⟨iv_len l, fun _ => ⟨G, 0, rfl, hB, row_lt h, fun j u hj => by
    rw [Nat.zero_add, cell_of_row _ _ _ _ _ _ h]
    rw [← hl] at hj
    simpa using hj⟩⟩
/-- An event without anything, and a row of ten numbers. -/
def zA : Obj := .cells #[.int .i64 0, .int .i64 0, .int .i64 0, .int .i64 0, .int .i64 0, .int .i64 0, .int .i64 0] 76
def lA : Obj := .cells #[.int .i64 1, .int .i64 1, .int .i64 2, .int .i64 3, .int .i64 4, .int .i64 5, .int .i64 5, .int .i64 6, .int .i64 7, .int .i64 7] 3
theorem lits_lA {W : World} {G B : Nat} (h : W.heap[G]? = some lA) (hB : B ≤ G) : Row W B 1 (some ⟨G, 0, none⟩) 10 (iv ten) := lits_at (l := ten) h hB rfl
theorem xc7 {W : World} {g : Nat} (h : W.heap[g]? = some zA) : (W.cell? ⟨g, 0, none⟩ = some (.int .i64 0) ∧ W.cell? ⟨g, 1, none⟩ = some (.int .i64 0) ∧ W.cell? ⟨g, 2, none⟩ = some (.int .i64 0) ∧ W.cell? ⟨g, 3, none⟩ = some (.int .i64 0) ∧ W.cell? ⟨g, 4, none⟩ = some (.int .i64 0) ∧ W.cell? ⟨g, 5, none⟩ = some (.int .i64 0) ∧ W.cell? ⟨g, 6, none⟩ = some (.int .i64 0)) ∧ (W.frozen? ⟨g, 0, none⟩ = false ∧ W.frozen? ⟨g, 1, none⟩ = false ∧ W.frozen? ⟨g, 2, none⟩ = false ∧ W.frozen? ⟨g, 3, none⟩ = false ∧ W.frozen? ⟨g, 4, none⟩ = false ∧ W.frozen? ⟨g, 5, none⟩ = false ∧ W.frozen? ⟨g, 6, none⟩ = false) := by
  unfold zA at h
  refine ⟨⟨?_, ?_, ?_, ?_, ?_, ?_, ?_⟩, frozen_of_row _ _ _ _ _ h, frozen_of_row _ _ _ _ _ h, frozen_of_row _ _ _ _ _ h, frozen_of_row _ _ _ _ _ h, frozen_of_row _ _ _ _ _ h, frozen_of_row _ _ _ _ _ h, frozen_of_row _ _ _ _ _ h⟩ <;> rw [cell_of_row _ _ _ _ _ _ h] <;> rfl
theorem set7row {W : World} {g : Nat} {p0 p1 p2 p3 p4 p5 p6 : Value} {t : TypeId} {old : Array Value} (h : W.heap[g]? = some (.cells old t (0, 0))) (h2 : old.size = 7) :
    ((((((W.setCell ⟨g, 0, none⟩ p0).setCell ⟨g, 1, none⟩ p1).setCell ⟨g, 2, none⟩ p2).setCell ⟨g, 3, none⟩ p3).setCell ⟨g, 4, none⟩ p4).setCell ⟨g, 5, none⟩ p5).setCell ⟨g, 6, none⟩ p6 = W.setRow g #[p0, p1, p2, p3, p4, p5, p6] := by
  obtain ⟨l⟩ := old
  match l, h2 with
  | [a0, a1, a2, a3, a4, a5, a6], _ =>
    have h0 := setRow_heap W g _ #[p0, a1, a2, a3, a4, a5, a6] t (0, 0) h
    have h1 := setRow_heap W g _ #[p0, p1, a2, a3, a4, a5, a6] t (0, 0) h
    have h2 := setRow_heap W g _ #[p0, p1, p2, a3, a4, a5, a6] t (0, 0) h
    have h3 := setRow_heap W g _ #[p0, p1, p2, p3, a4, a5, a6] t (0, 0) h
    have h4 := setRow_heap W g _ #[p0, p1, p2, p3, p4, a5, a6] t (0, 0) h
    have h5 := setRow_heap W g _ #[p0, p1, p2, p3, p4, p5, a6] t (0, 0) h
    rw [setCell_eq_setRow W g 0 _ t (0, 0) p0 h]
    show ((((((W.setRow g #[p0, a1, a2, a3, a4, a5, a6]).setCell _ _).setCell _ _).setCell _ _).setCell _ _).setCell _ _).setCell _ _ = _
    rw [setCell_eq_setRow _ g 1 _ t (0, 0) p1 h0, setRow_setRow]
    show (((((W.setRow g #[p0, p1, a2, a3, a4, a5, a6]).setCell _ _).setCell _ _).setCell _ _).setCell _ _).setCell _ _ = _
    rw [setCell_eq_setRow _ g 2 _ t (0, 0) p2 h1, setRow_setRow]
    show ((((W.setRow g #[p0, p1, p2, a3, a4, a5, a6]).setCell _ _).setCell _ _).setCell _ _).setCell _ _ = _
    rw [setCell_eq_setRow _ g 3 _ t (0, 0) p3 h2, setRow_setRow]
    show (((W.setRow g #[p0, p1, p2, p3, a4, a5, a6]).setCell _ _).setCell _ _).setCell _ _ = _
    rw [setCell_eq_setRow _ g 4 _ t (0, 0) p4 h3, setRow_setRow]
    show ((W.setRow g #[p0, p1, p2, p3, p4, a5, a6]).setCell _ _).setCell _ _ = _
    rw [setCell_eq_setRow _ g 5 _ t (0, 0) p5 h4, setRow_setRow]
    show (W.setRow g #[p0, p1, p2, p3, p4, p5, a6]).setCell _ _ = _
    rw [setCell_eq_setRow _ g 6 _ t (0, 0) p6 h5, setRow_setRow]
    rfl

/-- While the events are made. -/
def ERel (T Q : Nat) (n : Int) (w : World) (d : Dy) (v : Vd) (cl : List Nat) (Acl : Option Addr) (cc m j : Nat) (wr : World) : Prop :=
  ∃ (E : List Ac) (Ae : Option Addr) (ce : Nat), E.length ≤ j ∧ Eok ⟨n, E⟩ ∧ (∀ i, i < E.length → (ag E i).t ≤ 1000 ∧ ∀ j', j ≤ j' → j' < m → (ag E i).t ≤ (cl.getD j' 0 : Nat)) ∧
    wr.heap[Q]? = some (.cells (ge ⟨n, E⟩ ⟨Ae, ce⟩) 28 (0, 0)) ∧ wr.ownsRow w.heap.size 76 7 (.slice Ae E.length ce) E.length (av E) ∧
    wr.ownsRow w.heap.size 3 1 (.slice Acl m cc) m (iv cl) ∧ wr.heap[w.heap.size]? = some (.cells (gd d v) 25 (0, 0)) ∧ wr.heap[w.heap.size + 1]? = some (.cells zE 28 (0, 0)) ∧ w.grownBy wr (some T) ∧ TapeOk wr T

theorem ERel.same {T Q : Nat} {n : Int} {w : World} {d : Dy} {v : Vd} {cl : List Nat} {Acl : Option Addr} {cc m j : Nat} {W : World} {E : List Ac} {Ae : Option Addr} {ce : Nat}
    (hEj : E.length ≤ j) (hok : Eok ⟨n, E⟩) (hEt : ∀ i, i < E.length → (ag E i).t ≤ 1000 ∧ ∀ j', j ≤ j' → j' < m → (ag E i).t ≤ (cl.getD j' 0 : Nat))
    (hQ : W.heap[Q]? = some (.cells (ge ⟨n, E⟩ ⟨Ae, ce⟩) 28 (0, 0))) (hO : W.ownsRow w.heap.size 76 7 (.slice Ae E.length ce) E.length (av E)) (hC : W.ownsRow w.heap.size 3 1 (.slice Acl m cc) m (iv cl))
    (hZ : W.heap[w.heap.size]? = some (.cells (gd d v) 25 (0, 0))) (hZ1 : W.heap[w.heap.size + 1]? = some (.cells zE 28 (0, 0))) (hB : w.grownBy W (some T)) (hT : TapeOk W T) : ERel T Q n w d v cl Acl cc m (j + 1) W :=
  ⟨E, Ae, ce, by omega, hok, fun i hi => ⟨(hEt i hi).1, fun j' h1 h2 => (hEt i hi).2 j' (by omega) h2⟩, hQ, hO, hC, hZ, hZ1, hB, hT⟩
theorem ERel.close {T Q : Nat} {n : Int} {w : World} {d : Dy} {v : Vd} {cl : List Nat} {Acl : Option Addr} {cc m j tm : Nat} {W w12 : World} {E : List Ac} {Ae Ae' : Option Addr} {ce ce' : Nat} {x : Ac} {o : Obj}
    (hEj : E.length ≤ j) (hok : Eok ⟨n, E⟩) (hEt : ∀ i, i < E.length → (ag E i).t ≤ 1000 ∧ ∀ j', j ≤ j' → j' < m → (ag E i).t ≤ (cl.getD j' 0 : Nat)) (hjm : j < m) (hm : m ≤ 15) (has : Asc cl 1000) (hcl : cl.length = m) (htm : cl.getD j 0 = tm)
    (hx : fitP n x) (hp : 0 ≤ x.p ∧ x.p < n) (hxt : x.t = (tm : Int))
    (hQ : W.heap[Q]? = some (.cells (ge ⟨n, E⟩ ⟨Ae, ce⟩) 28 (0, 0))) (hQw : w.heap.size + 2 ≤ Q) (hO : W.ownsRow w.heap.size 76 7 (.slice Ae E.length ce) E.length (av E)) (hC : W.ownsRow w.heap.size 3 1 (.slice Acl m cc) m (iv cl))
    (hZ : W.heap[w.heap.size]? = some (.cells (gd d v) 25 (0, 0))) (hZ1 : W.heap[w.heap.size + 1]? = some (.cells zE 28 (0, 0))) (hB : w.grownBy W (some T)) (hT : TapeOk W T) (hTw : T < w.heap.size)
    (hgr : (W.alloc o).grownBy w12 (Value.slice Ae E.length ce).ownBlock)
    (hO2 : w12.ownsRow w.heap.size 76 7 (.slice Ae' (E.length + 1) ce') (E.length + 1) (av E ++ [.int .i64 x.t, .int .i64 x.k, .int .i64 x.p, .int .i64 x.r, .int .i64 x.u, .int .i64 x.c, .int .i64 x.f])) :
    ERel T Q n w d v cl Acl cc m (j + 1) (w12.setRow Q ((ge ⟨n, E⟩ ⟨Ae, ce⟩).setIfInBounds 1 (.slice Ae' (E.length + 1) ce'))) := by
  have hmono : ∀ d i, i + d < cl.length → cl.getD i 0 ≤ cl.getD (i + d) 0 := fun d i h => Asc.mono has d i h
  have htm2 : ∀ j', j ≤ j' → j' < m → tm ≤ cl.getD j' 0 := fun j' h1 h2 => by
    obtain ⟨dd, rfl⟩ : ∃ dd, j' = j + dd := ⟨j' - j, by omega⟩
    rw [← htm]; exact hmono dd j (by omega)
  have htm3 : tm ≤ 1000 := by rw [← htm]; exact has.le j (by omega)
  have hlen : (E ++ [x]).length = E.length + 1 := by simp
  have hba := box_below W o
  have hQ12 : w12.heap[Q]? = some (.cells (ge ⟨n, E⟩ ⟨Ae, ce⟩) 28 (0, 0)) := by
    have h1 := (heap_alloc_old W o (row_lt hQ)).trans hQ
    exact (hgr.block Q (by have := row_lt hQ; simp; omega) (fun e => own_not (own_below hO hba) h1 (by decide) e.symm)).trans h1
  have hbox : ∀ (g : Nat) (cs : Array Value) (t : TypeId), W.heap[g]? = some (.cells cs t (0, 0)) → t ≠ 76 → w12.heap[g]? = some (.cells cs t (0, 0)) := fun g cs t hg hne => by
    have h1 := (heap_alloc_old W o (row_lt hg)).trans hg
    exact (hgr.block g (by have := row_lt hg; simp; omega) (fun e => own_not (own_below hO hba) h1 hne e.symm)).trans h1
  generalize hcs : (ge ⟨n, E⟩ ⟨Ae, ce⟩).setIfInBounds 1 (.slice Ae' (E.length + 1) ce') = cs
  have hcs2 : cs = ge ⟨n, E ++ [x]⟩ ⟨Ae', ce'⟩ := by rw [← hcs]; unfold ge; rw [hlen]; rfl
  have hs := gb_setRow w12 Q cs
  refine ⟨E ++ [x], Ae', ce', by omega, ?_, fun i hi => ?_, ?_, ?_, ?_, ?_, ?_, ?_, ?_⟩
  · refine Eok.add hok (by omega) ⟨by rw [hxt]; omega, by rw [hxt]; omega, hp.1, hp.2, hx⟩ (fun i hi => ?_)
    rw [hxt, ← htm]
    have := (hEt i hi).2 j (Nat.le_refl _) hjm
    omega
  · rw [hlen] at hi
    by_cases e : i = E.length
    · rw [e, ag_end, hxt]
      exact ⟨by omega, fun j' h1 h2 => by have := htm2 j' (by omega) h2; omega⟩
    · rw [ag_left (by omega)]
      exact ⟨(hEt i (by omega)).1, fun j' h1 h2 => (hEt i (by omega)).2 j' (by omega) h2⟩
  · rw [← hcs2]; exact setRow_heap _ _ _ _ _ _ hQ12
  · rw [hlen, av_snoc]
    exact kept_ne hO2 hs (fun g e => by cases e; exact own_not hO2 hQ12 (by decide))
  · have h1 := own_below hC hba
    have h2 := kept_ne h1 hgr (fun g e => own_ne (own_below hO hba) h1 (by decide) g e)
    exact kept_ne h2 hs (fun g e => by cases e; exact own_not h2 hQ12 (by decide))
  · exact (setRow_other _ _ _ _ (by omega)).trans (hbox _ _ _ hZ (by decide))
  · exact (setRow_other _ _ _ _ (by omega)).trans (hbox _ _ _ hZ1 (by decide))
  · exact gb_far (gb_own (gb_trans hB (gb_row (gb_of_below hba))) hgr (fun g e => (hO.lt g e).1)) (by omega) _
  · exact tape_set (tape_kept (tape_below hT hba) hgr (fun g e => by have := (hO.lt g e).1; omega)) (by omega) _

/-- While an event is made: it lies in block G. -/
structure EvW (T Q G : Nat) (n : Int) (w : World) (d : Dy) (v : Vd) (cl : List Nat) (Acl : Option Addr) (cc m : Nat) (E : List Ac) (Ae : Option Addr) (ce : Nat) (x : Ac) (W : World) : Prop where
  xb : W.heap[G]? = some (.cells (acc x) 76 (0, 0))
  q : W.heap[Q]? = some (.cells (ge ⟨n, E⟩ ⟨Ae, ce⟩) 28 (0, 0))
  o : W.ownsRow w.heap.size 76 7 (.slice Ae E.length ce) E.length (av E)
  og : (Value.slice Ae E.length ce).ownBlock ≠ some G
  c : W.ownsRow w.heap.size 3 1 (.slice Acl m cc) m (iv cl)
  z : W.heap[w.heap.size]? = some (.cells (gd d v) 25 (0, 0))
  z1 : W.heap[w.heap.size + 1]? = some (.cells zE 28 (0, 0))
  g : w.grownBy W (some T)
  t : TapeOk W T
  tw : T < w.heap.size
  qw : w.heap.size + 2 ≤ Q
  gw : Q < G
theorem EvW.next {T Q G : Nat} {n : Int} {w : World} {d : Dy} {v : Vd} {cl : List Nat} {Acl : Option Addr} {cc m : Nat} {E : List Ac} {Ae : Option Addr} {ce : Nat} {x : Ac} {W w4 : World} (h : EvW T Q G n w d v cl Acl cc m E Ae ce x W) (hg : W.grownBy w4 (some T)) (ht : TapeOk w4 T) : EvW T Q G n w d v cl Acl cc m E Ae ce x w4 := by
  have hT := h.tw
  have hQ := h.qw
  have hG := h.gw
  exact ⟨(hg.block _ (row_lt h.xb) (fun e => by injection e; omega)).trans h.xb, (hg.block _ (row_lt h.q) (fun e => by injection e; omega)).trans h.q, own_keepT h.o hg h.tw, h.og, own_keepT h.c hg h.tw, (hg.block _ (row_lt h.z) (fun e => by injection e; omega)).trans h.z, (hg.block _ (row_lt h.z1) (fun e => by injection e; omega)).trans h.z1, gb_trans h.g hg, ht, h.tw, h.qw, h.gw⟩
theorem EvW.set {T Q G : Nat} {n : Int} {w : World} {d : Dy} {v : Vd} {cl : List Nat} {Acl : Option Addr} {cc m : Nat} {E : List Ac} {Ae : Option Addr} {ce : Nat} {x : Ac} {W : World} (h : EvW T Q G n w d v cl Acl cc m E Ae ce x W) (i : Nat) (u : Value) (x' : Ac) (hx : (acc x).setIfInBounds i u = acc x') : EvW T Q G n w d v cl Acl cc m E Ae ce x' (W.setCell ⟨G, i, none⟩ u) := by
  have hT := h.tw
  have hQ := h.qw
  have hG := h.gw
  have e : W.setCell ⟨G, i, none⟩ u = W.setRow G (acc x') := by rw [setCell_eq_setRow W G i _ _ _ u h.xb, hx]
  rw [e]
  exact ⟨setRow_heap _ _ _ _ _ _ h.xb, (setRow_other _ _ _ _ (by omega)).trans h.q, kept_ne h.o (gb_setRow W G _) (fun g e => by cases e; exact h.og), h.og, kept_ne h.c (gb_setRow W G _) (fun g e => by cases e; exact own_not h.c h.xb (by decide)), (setRow_other _ _ _ _ (by omega)).trans h.z, (setRow_other _ _ _ _ (by omega)).trans h.z1, gb_far h.g (by omega) _, tape_set h.t (by omega) _, h.tw, h.qw, h.gw⟩
theorem EvW.q12 {T Q G : Nat} {n : Int} {w : World} {d : Dy} {v : Vd} {cl : List Nat} {Acl : Option Addr} {cc m : Nat} {E : List Ac} {Ae : Option Addr} {ce : Nat} {x : Ac} {W w12 : World} {o : Obj} (h : EvW T Q G n w d v cl Acl cc m E Ae ce x W) (hgr : (W.alloc o).grownBy w12 (Value.slice Ae E.length ce).ownBlock) : w12.heap[Q]? = some (.cells (ge ⟨n, E⟩ ⟨Ae, ce⟩) 28 (0, 0)) := by
  have h1 := (heap_alloc_old W o (row_lt h.q)).trans h.q
  exact (hgr.block Q (by have := row_lt h.q; simp; omega) (fun e => own_not (own_below h.o (box_below W o)) h1 (by decide) e.symm)).trans h1

set_option maxRecDepth 100000 in
set_option maxHeartbeats 8000000 in
theorem estate_any (T : Nat) (d : Dy) (v : Vd) (w : World) (h : TapeOk w T) (hT : T < w.heap.size) (h1 : 1 ≤ d.k.length) (h2 : d.k.length ≤ 7) :
    Calls Tryz.prog 11 #[.pointer (some ⟨T, 0, none⟩), .agg (gd d v)] w (EsPost T w) := by
  have hb2 := (box_below w (.cells (gd d v) 25)).trans ((box_below (w.alloc (.cells (gd d v) 25)) (.cells zE 28)).mono (by simp))
  have HT := Lib.hid (tape_below h hb2)
  have HG := Lib.hid (gb_row (gb_of_below hb2) : w.grownBy _ (some T))
  have R0 := Lib.hid ((heap_alloc_old (w.alloc (.cells (gd d v) 25)) (.cells zE 28) (by simp)).trans (heap_alloc_new w (.cells (gd d v) 25)))
  have r1 := heap_alloc_new (w.alloc (.cells (gd d v) 25)) (.cells zE 28)
  rw [show (w.alloc (.cells (gd d v) 25)).heap.size = w.heap.size + 1 by simp] at r1
  have R1 := Lib.hid r1
  clear h hb2 r1
  obtain ⟨j0, hj1, hy0, hy1, hy2⟩ := info_parts zinfoAc
  have HJ := Lib.hid hj1
  have HJ0 := Lib.hid hy0
  have HJ1 := Lib.hid hy1
  have HJ2 := Lib.hid hy2
  clear hj1 hy0 hy1 hy2
  go_enter Tryz.func11, Tryz.ntmps11
  go_wp2_with fail
  refine (between_any T 1 4 _ HT.out (by omega) (by omega) (by omega) (by omega)).mono ?_
  rintro e w1 ⟨n, hn0, hn1, rfl, hg1, ht1⟩
  have hg1' := gb_trans HG.out hg1
  have S0 := Lib.hid ((hg1.block _ (row_lt R0.out) (by simp; omega)).trans R0.out)
  have S1 := Lib.hid ((hg1.block _ (row_lt R1.out) (by simp; omega)).trans R1.out)
  have HG1 := Lib.hid hg1'
  have HT1 := Lib.hid ht1
  clear hg1 ht1 hg1' HT HG R0 R1
  go_wp2_with fail
  have hbq := box_below w1 (.cells #[.int .i64 n, .slice none 0 0] 28)
  have HT1q := Lib.hid (tape_below HT1.out hbq)
  have HQ := Lib.hid (show (w1.alloc (.cells #[.int .i64 n, .slice none 0 0] 28)).heap[w1.heap.size]? = some (.cells (ge ⟨n, []⟩ ⟨none, 0⟩) 28 (0, 0)) from heap_alloc_new w1 _)
  have Q0 := Lib.hid ((hbq.block _ (row_lt S0.out)).trans S0.out)
  have Q1 := Lib.hid ((hbq.block _ (row_lt S1.out)).trans S1.out)
  have HGq := Lib.hid (gb_alloc2 HG1.out (.cells #[.int .i64 n, .slice none 0 0] 28))
  have hsz1 : w.heap.size + 2 ≤ w1.heap.size := by have := row_lt S1.out; omega
  clear hbq HT1 HG1 S0 S1
  generalize w1.alloc (.cells #[.int .i64 n, .slice none 0 0] 28) = wq at *
  generalize w1.heap.size = Q at *
  have hTq : T < wq.heap.size := by have := HGq.out.size; omega
  refine (next_any T 16 _ HT1q.out (by omega) (by omega)).mono ?_
  rintro e w2 ⟨zm, zm0, zm1, rfl, hg2, ht2⟩
  obtain ⟨m, rfl⟩ : ∃ k : Nat, zm = k := ⟨zm.toNat, by omega⟩
  have hTw2 : T < w2.heap.size := by have := hg2.size; omega
  have HCK := Lib.hid (clock_any T m w2 ht2 hTw2 (by omega))
  have HQ2 := Lib.hid ((hg2.block _ (row_lt HQ.out) (by simp; omega)).trans HQ.out)
  have Q02 := Lib.hid ((hg2.block _ (row_lt Q0.out) (by simp; omega)).trans Q0.out)
  have Q12 := Lib.hid ((hg2.block _ (row_lt Q1.out) (by simp; omega)).trans Q1.out)
  have HG2 := Lib.hid (gb_trans HGq.out hg2)
  clear hg2 ht2 HQ Q0 Q1 HGq HT1q
  go_wp2_with fail
  refine HCK.out.mono ?_
  rintro e w3 ⟨cl, Acl, cc, rfl, hcll, hasc, hcown, hg3, ht3⟩
  have HQ3 := Lib.hid ((hg3.block _ (row_lt HQ2.out) (by simp; omega)).trans HQ2.out)
  have Q03 := Lib.hid ((hg3.block _ (row_lt Q02.out) (by simp; omega)).trans Q02.out)
  have Q13 := Lib.hid ((hg3.block _ (row_lt Q12.out) (by simp; omega)).trans Q12.out)
  have HG3 := Lib.hid (gb_trans HG2.out hg3)
  have HOC := Lib.hid (own_base hcown (show w.heap.size ≤ w2.heap.size from HG2.out.size))
  have HT3 := Lib.hid ht3
  have HCL := Lib.hid hcll
  have HAS := Lib.hid hasc
  clear hg3 ht3 hcll hasc hcown HCK HQ2 Q02 Q12 HG2
  go_wp2_with fail
  go_loopw [17] (fun jj wr => ∃ j : Nat, j ≤ m ∧ jj = .int .i64 (j : Int) ∧ ERel T Q n w d v cl Acl cc m j wr) (fun jj _ => m - (intOf jj).toNat)
  case atStart => exact ⟨0, by omega, rfl, [], none, 0, by simp, Eok.nil hn0 (by omega), fun i hi => absurd hi (by simp), HQ3.out, own_nil _ _ _ _, HOC.out, Q03.out, Q13.out, HG3.out, HT3.out⟩
  case round =>
    obtain ⟨j, hj, rfl, E, Ae, ce, hlj, hok, hlt', hq, hown, hoc, hz, hz1, hgb, htp⟩ := hrel
    have HOK := Lib.hid hok
    have HLT := Lib.hid hlt'
    have HO := Lib.hid hown
    have HC := Lib.hid hoc
    have HZ := Lib.hid hz
    have HZ1 := Lib.hid hz1
    have HQR := Lib.hid hq
    have HGB := Lib.hid hgb
    have HTP := Lib.hid htp
    have hszr := hgb.size
    have lq := row_lt hq
    obtain ⟨g0, g1⟩ := geCells hq
    clear HOC HQ3 Q03 Q13 HG3 HT3 hok hlt'
    by_cases hlt : j < m
    · obtain ⟨b, off, e6, -, -, y0⟩ := (row_of_own hoc).int hlt
      have hAc : Acl = some ⟨b, off, none⟩ := e6
      subst hAc
      obtain ⟨tm, htm⟩ : ∃ t, cl.getD j 0 = t := ⟨_, rfl⟩
      rw [htm] at y0
      have HTM := Lib.hid htm
      have i0' : (0 : Int) ≤ (j : Int) := by omega
      have i1' : (j : Int) < (m : Int) := by omega
      have hTr : T < wr.heap.size := by omega
      have HNX := Lib.hid (fun (w' : World) (h : TapeOk w' T) => next_any T n w' h (by omega) (by omega))
      have HPK := Lib.hid (fun (w' : World) (G : Nat) (h : TapeOk w' T) (hr : Row w' wr.heap.size 1 (some ⟨G, 0, none⟩) 10 (iv ten)) => pick_any T wr.heap.size 10 10 (some ⟨G, 0, none⟩) ten w' h hr (by omega) (by omega) (by omega))
      clear hown hoc hz hz1 hq hgb htp htm
      go_upto_region 5 with fail
      go_cut [8] from 21 to 29 (fun s8 wx => ∃ (k : Nat) (p : Nat) (G : Nat), s8 = .pointer (some ⟨G, 0, none⟩) ∧ (1 ≤ k ∧ k ≤ 7) ∧ (p : Int) < n ∧ wr.heap.size ≤ G ∧ wx.heap[G]? = some (.cells #[.int .i64 (tm : Int), .int .i64 (k : Int), .int .i64 (p : Int), .int .i64 0, .int .i64 0, .int .i64 0, .int .i64 0] 76 (0, 0)) ∧ wr.grownBy wx (some T) ∧ TapeOk wx T)
      case first =>
        -- CUT
        have LQ := Lib.hid lq
        go_region_law (first
          | (go_simp; go_at_call 39; (with_reducible refine (HPK.out _ _ ?_ ?_).mono ?_); (first | exact TN.out | exact tape_new2 TN.out _ | exact tape_new2 (tape_new2 TN.out _) _); (first | exact lits_lA (heap_alloc_new wn lA) GN.out.size | exact lits_lA (at1 wn lA zA) GN.out.size | exact lits_lA (at2 wn zA lA) (Nat.le_succ_of_le GN.out.size) | exact lits_lA LN.out LNb.out | exact lits_lA ((heap_alloc_old wn zA (row_lt LN.out)).trans LN.out) LNb.out); (rintro e wl ⟨z, hz4, rfl, hg0, ht0⟩; obtain ⟨k, hk⟩ : ∃ k, ten.getD z 0 = k := ⟨_, rfl⟩; rw [hk]; have HK7 := Lib.hid (show 1 ≤ k ∧ k ≤ 7 from hk ▸ ten_rng z hz4); have GL := Lib.hid (show wr.grownBy wl (some T) from (by first | exact gb_trans GN.out ⟨hg0.os, hg0.tape, hg0.output, hg0.size, hg0.block⟩ | exact gb_trans (gb_alloc2 GN.out _) ⟨hg0.os, hg0.tape, hg0.output, hg0.size, hg0.block⟩ | exact gb_trans (gb_alloc2 (gb_alloc2 GN.out _) _) ⟨hg0.os, hg0.tape, hg0.output, hg0.size, hg0.block⟩)); have TL := Lib.hid ht0; (first | (have ZL := Lib.hid (show wl.heap[wn.heap.size]? = some zA from (by first | exact (hg0.block (wn.heap.size) (by first | (simp; done) | (simp; omega)) (fun e => by injection e; omega)).trans (heap_alloc_new wn zA) | exact (hg0.block (wn.heap.size) (by first | (simp; done) | (simp; omega)) (fun e => by injection e; omega)).trans (at1 wn zA lA)))) | (have ZL := Lib.hid (show wl.heap[wn.heap.size + 1]? = some zA from (hg0.block (wn.heap.size + 1) (by first | (simp; done) | (simp; omega)) (fun e => by injection e; omega)).trans (at2 wn lA zA))) | (have ZL := Lib.hid ((hg0.block _ (row_lt ZN.out) (fun e => by injection e; have := ZNb.out; omega)).trans ZN.out)) | (have ZL := Lib.hid ((hg0.block _ (Nat.lt_of_lt_of_le (row_lt ZN.out) (by simp)) (fun e => by injection e; have := ZNb.out; omega)).trans ((heap_alloc_old _ _ (row_lt ZN.out)).trans ZN.out))) | skip); (first | (have zz := xc7 ZL.out; obtain ⟨⟨x0, x1, x2, x3, x4, x5, x6⟩, f0, f1, f2, f3, f4, f5, f6⟩ := zz) | skip); (first | clear hg0 | skip); (first | clear ht0 | skip); (first | clear hk | skip); (first | clear hz4 | skip)))
          | (go_simp; go_at_call 12; (with_reducible refine (HNX.out _ ?_).mono ?_); (first | exact TP.out | exact tape_new2 TP.out _ | exact tape_new2 (tape_new2 TP.out _) _); (rintro e wl ⟨zp, zp0, zp1, rfl, hg0, ht0⟩; obtain ⟨p, rfl⟩ : ∃ p : Nat, zp = p := ⟨zp.toNat, by omega⟩; have HPL := Lib.hid (show (p : Int) < n by omega); have GL := Lib.hid (show wr.grownBy wl (some T) from (by first | exact gb_trans GP.out ⟨hg0.os, hg0.tape, hg0.output, hg0.size, hg0.block⟩ | exact gb_trans (gb_alloc2 GP.out _) ⟨hg0.os, hg0.tape, hg0.output, hg0.size, hg0.block⟩ | exact gb_trans (gb_alloc2 (gb_alloc2 GP.out _) _) ⟨hg0.os, hg0.tape, hg0.output, hg0.size, hg0.block⟩)); have TL := Lib.hid ht0; (first | (have ZL := Lib.hid (show wl.heap[wp.heap.size]? = some zA from (by first | exact (hg0.block (wp.heap.size) (by first | (simp; done) | (simp; omega)) (fun e => by injection e; omega)).trans (heap_alloc_new wp zA) | exact (hg0.block (wp.heap.size) (by first | (simp; done) | (simp; omega)) (fun e => by injection e; omega)).trans (at1 wp zA lA)))) | (have ZL := Lib.hid (show wl.heap[wp.heap.size + 1]? = some zA from (hg0.block (wp.heap.size + 1) (by first | (simp; done) | (simp; omega)) (fun e => by injection e; omega)).trans (at2 wp lA zA))) | (have ZL := Lib.hid ((hg0.block _ (row_lt ZP.out) (fun e => by injection e; have := ZPb.out; omega)).trans ZP.out)) | (have ZL := Lib.hid ((hg0.block _ (Nat.lt_of_lt_of_le (row_lt ZP.out) (by simp)) (fun e => by injection e; have := ZPb.out; omega)).trans ((heap_alloc_old _ _ (row_lt ZP.out)).trans ZP.out))) | skip); (first | (have zz := xc7 ZL.out; obtain ⟨⟨x0, x1, x2, x3, x4, x5, x6⟩, f0, f1, f2, f3, f4, f5, f6⟩ := zz) | skip); (first | clear hg0 | skip); (first | clear ht0 | skip); (first | clear zp0 zp1 | skip)))
          | (go_simp; go_at_call 39; (with_reducible refine (HPK.out _ _ ?_ ?_).mono ?_); (first | exact HTP.out | exact tape_new2 HTP.out _ | exact tape_new2 (tape_new2 HTP.out _) _); (first | exact lits_lA (heap_alloc_new wr lA) (Nat.le_refl _) | exact lits_lA (at1 wr lA zA) (Nat.le_refl _) | exact lits_lA (at2 wr zA lA) (Nat.le_succ _)); (rintro e wp ⟨z, hz4, rfl, hg0, ht0⟩; obtain ⟨k, hk⟩ : ∃ k, ten.getD z 0 = k := ⟨_, rfl⟩; rw [hk]; have HK7 := Lib.hid (show 1 ≤ k ∧ k ≤ 7 from hk ▸ ten_rng z hz4); have GP := Lib.hid (show wr.grownBy wp (some T) from (by first | exact ⟨hg0.os, hg0.tape, hg0.output, hg0.size, hg0.block⟩ | exact gb_trans (gb_row (gb_of_below (box_below wr _))) ⟨hg0.os, hg0.tape, hg0.output, hg0.size, hg0.block⟩ | exact gb_trans (gb_alloc2 (gb_row (gb_of_below (box_below wr _))) _) ⟨hg0.os, hg0.tape, hg0.output, hg0.size, hg0.block⟩)); have TP := Lib.hid ht0; have hTp : T < wp.heap.size := Nat.lt_of_lt_of_le hTr GP.out.size; have lqp : Q < wp.heap.size := Nat.lt_of_lt_of_le lq GP.out.size; have u0 : wp.cell? ⟨Q, 0, none⟩ = some (.int .i64 n) := (geCells ((GP.out.block Q lq (fun e => by injection e; omega)).trans HQR.out)).1; (first | (have ZP := Lib.hid (show wp.heap[wr.heap.size]? = some zA from (by first | exact (hg0.block (wr.heap.size) (by first | (simp; done) | (simp; omega)) (fun e => by injection e; omega)).trans (heap_alloc_new wr zA) | exact (hg0.block (wr.heap.size) (by first | (simp; done) | (simp; omega)) (fun e => by injection e; omega)).trans (at1 wr zA lA))); have ZPb := Lib.hid (Nat.le_refl wr.heap.size)) | (have ZP := Lib.hid (show wp.heap[wr.heap.size + 1]? = some zA from (hg0.block (wr.heap.size + 1) (by first | (simp; done) | (simp; omega)) (fun e => by injection e; omega)).trans (at2 wr lA zA)); have ZPb := Lib.hid (Nat.le_succ wr.heap.size)) | skip); (first | (have zz := xc7 ZP.out; obtain ⟨⟨x0, x1, x2, x3, x4, x5, x6⟩, f0, f1, f2, f3, f4, f5, f6⟩ := zz) | skip); (first | clear hg0 | skip); (first | clear ht0 | skip); (first | clear hk | skip); (first | clear hz4 | skip)))
          | (go_simp; go_at_call 12; (with_reducible refine (HNX.out _ ?_).mono ?_); (first | exact HTP.out | exact tape_new2 HTP.out _ | exact tape_new2 (tape_new2 HTP.out _) _); (rintro e wn ⟨zp, zp0, zp1, rfl, hg0, ht0⟩; obtain ⟨p, rfl⟩ : ∃ p : Nat, zp = p := ⟨zp.toNat, by omega⟩; have HPL := Lib.hid (show (p : Int) < n by omega); have GN := Lib.hid (show wr.grownBy wn (some T) from (by first | exact ⟨hg0.os, hg0.tape, hg0.output, hg0.size, hg0.block⟩ | exact gb_trans (gb_row (gb_of_below (box_below wr _))) ⟨hg0.os, hg0.tape, hg0.output, hg0.size, hg0.block⟩ | exact gb_trans (gb_alloc2 (gb_row (gb_of_below (box_below wr _))) _) ⟨hg0.os, hg0.tape, hg0.output, hg0.size, hg0.block⟩)); have TN := Lib.hid ht0; have hTn : T < wn.heap.size := Nat.lt_of_lt_of_le hTr GN.out.size; have lqn : Q < wn.heap.size := Nat.lt_of_lt_of_le lq GN.out.size; have u0 : wn.cell? ⟨Q, 0, none⟩ = some (.int .i64 n) := (geCells ((GN.out.block Q lq (fun e => by injection e; omega)).trans HQR.out)).1; (first | (have ZN := Lib.hid (show wn.heap[wr.heap.size]? = some zA from (by first | exact (hg0.block (wr.heap.size) (by first | (simp; done) | (simp; omega)) (fun e => by injection e; omega)).trans (heap_alloc_new wr zA) | exact (hg0.block (wr.heap.size) (by first | (simp; done) | (simp; omega)) (fun e => by injection e; omega)).trans (at1 wr zA lA))); have ZNb := Lib.hid (Nat.le_refl wr.heap.size)) | (have ZN := Lib.hid (show wn.heap[wr.heap.size + 1]? = some zA from (hg0.block (wr.heap.size + 1) (by first | (simp; done) | (simp; omega)) (fun e => by injection e; omega)).trans (at2 wr lA zA)); have ZNb := Lib.hid (Nat.le_succ wr.heap.size)) | skip); (first | (have LN := Lib.hid (show wn.heap[wr.heap.size]? = some lA from (by first | exact (hg0.block (wr.heap.size) (by first | (simp; done) | (simp; omega)) (fun e => by injection e; omega)).trans (heap_alloc_new wr lA) | exact (hg0.block (wr.heap.size) (by first | (simp; done) | (simp; omega)) (fun e => by injection e; omega)).trans (at1 wr lA zA))); have LNb := Lib.hid (Nat.le_refl wr.heap.size)) | (have LN := Lib.hid (show wn.heap[wr.heap.size + 1]? = some lA from (hg0.block (wr.heap.size + 1) (by first | (simp; done) | (simp; omega)) (fun e => by injection e; omega)).trans (at2 wr zA lA)); have LNb := Lib.hid (Nat.le_succ wr.heap.size)) | skip); (first | (have zz := xc7 ZN.out; obtain ⟨⟨x0, x1, x2, x3, x4, x5, x6⟩, f0, f1, f2, f3, f4, f5, f6⟩ := zz) | skip); (first | clear hg0 | skip); (first | clear ht0 | skip); (first | clear zp0 zp1 | skip))))
        all_goals
          go_wp2_with fail
          go_meet
          case rel =>
            first
              | exact ⟨k, p, _, rfl, HK7.out, HPL.out, GL.out.size, heap_alloc_new wl _, gb_alloc2 GL.out _, tape_new2 TL.out _⟩
              | (rw [set7row ZL.out rfl]; exact ⟨k, p, _, rfl, HK7.out, HPL.out, by first | exact Nat.le_refl _ | exact Nat.le_succ _ | exact GN.out.size | exact GP.out.size | exact Nat.le_succ_of_le GN.out.size | exact Nat.le_succ_of_le GP.out.size, setRow_heap _ _ _ _ _ _ ZL.out, gb_far GL.out (by first | exact Nat.le_refl _ | exact Nat.le_succ _ | exact GN.out.size | exact GP.out.size | exact Nat.le_succ_of_le GN.out.size | exact Nat.le_succ_of_le GP.out.size) _, tape_set TL.out (by first | omega | (have := GN.out.size; omega) | (have := GP.out.size; omega)) _⟩)
        -- END
      case rest =>
        obtain ⟨k, p, G, rfl, hk7, hpn, hG, hxb, hgx, htx⟩ := hcut
        rename World => W
        have HEV0 := Lib.hid (EvW.mk (x := ⟨(tm : Int), (k : Int), (p : Int), 0, 0, 0, 0⟩) hxb ((hgx.block _ lq (fun e => by injection e; omega)).trans HQR.out) (own_keepT HO.out hgx hT) (fun e => by have := (HO.out.lt _ e).2; omega) (own_keepT HC.out hgx hT) ((hgx.block _ (row_lt HZ.out) (fun e => by injection e; omega)).trans HZ.out) ((hgx.block _ (row_lt HZ1.out) (fun e => by injection e; omega)).trans HZ1.out) (gb_trans HGB.out hgx) htx hT hsz1 (by omega))
        have HPN := Lib.hid (show (0 : Int) ≤ (p : Int) ∧ (p : Int) < n by omega)
        have hm15 : m ≤ 15 := by omega
        have htm0 : (0 : Int) ≤ (tm : Int) := by omega
        have htm1 : tm ≤ 1000 := by rw [← HTM.out]; exact HAS.out.le j (by have := HCL.out; omega)
        have hGQ : G ≠ Q := by omega
        have hGw : G ≠ w.heap.size := by omega
        clear hxb hgx htx g0 g1 y0 hpn hG
        rcases (by omega : k = 1 ∨ k = 2 ∨ k = 3 ∨ k = 4 ∨ k = 5 ∨ k = 6 ∨ k = 7) with rfl | rfl | rfl | rfl | rfl | rfl | rfl
        · obtain ⟨n0, n1, n2, n3, n4, n5, n6⟩ := accCells (x := ⟨tm, 1, p, 0, 0, 0, 0⟩) HEV0.out.xb
          simp only at n0 n1 n2 n3 n4 n5 n6
          obtain ⟨g0, g1⟩ := geCells HEV0.out.q
          obtain ⟨h0', h1'⟩ := gdCells HEV0.out.z
          have hw1 : IntKind.i64.wrap ((d.k.length : Int) + 1) = (d.k.length : Int) + 1 := IntWalk.i64_in _ (by omega)
          have HNX2 := Lib.hid (next_any T ((d.k.length : Int) + 1) W HEV0.out.t (by omega) (by omega))
          go_wp2_with fail
          refine HNX2.out.mono ?_
          rintro e w4 ⟨r, r0, r1, rfl, hg4, ht4⟩
          obtain ⟨rn, rfl⟩ : ∃ rn : Nat, r = rn := ⟨r.toNat, by omega⟩
          have HE4 := Lib.hid (HEV0.out.next hg4 ht4)
          clear hg4 ht4
          clear n0 n1 n2 n3 n4 n5 n6 g0 g1 h0' h1'
          obtain ⟨V, hV⟩ : ∃ V, w4.setCell ⟨G, 3, none⟩ (.int .i64 (rn : Int)) = V := ⟨_, rfl⟩
          have HEV := Lib.hid (show EvW T Q G n w d v cl (some ⟨b, off, none⟩) cc m E Ae ce ⟨tm, 1, p, rn, 0, 0, 0⟩ V from hV ▸ HE4.out.set 3 (.int .i64 (rn : Int)) ⟨tm, 1, p, rn, 0, 0, 0⟩ rfl)
          have q4 : w4.frozen? ⟨G, 3, none⟩ = false := frozen_of_row _ _ _ _ _ HE4.out.xb
          have q5 := (accCells HE4.out.xb)
          unfold AcAt at q5
          obtain ⟨c0, c1, c2, c3, c4, c5, c6⟩ := q5
          simp only at c0 c1 c2 c3 c4 c5 c6
          obtain ⟨n0, n1, n2, n3, n4, n5, n6⟩ := accCells (x := ⟨tm, 1, p, rn, 0, 0, 0⟩) HEV.out.xb
          simp only at n0 n1 n2 n3 n4 n5 n6
          obtain ⟨g0, g1⟩ := geCells HEV.out.q
          obtain ⟨h0', h1'⟩ := gdCells HEV.out.z
          have HFIT := Lib.hid (show fitP n ⟨tm, 1, p, rn, 0, 0, 0⟩ by simp [fitP]; (first | done | omega))
          go_wp2_with (at_builtin; refine wpList_append_own _ rfl (.tmp 69) (.tmp 71) 26 rfl w.heap.size 76 j0 (.agg #[.int .i64 0, .int .i64 0, .int .i64 0, .int .i64 0, .int .i64 0, .int .i64 0, .int .i64 0]) 7 56 Tryz.underlying26 HJ.out HJ0.out HJ1.out HJ2.out rfl (by decide) _ E.length (av E) rfl (HEV.out.o.alloc _) ⟨V.heap.size, 0, none⟩ 1 1 [.int .i64 (tm : Int), .int .i64 1, .int .i64 (p : Int), .int .i64 (rn : Int), .int .i64 0, .int .i64 0, .int .i64 0] rfl rfl (World.news_of_block (heap_alloc_new V _)) (by simp [Value.oneCell']) (by unfold maxLen; omega) (by omega) (by have := HEV.out.g.size; simp; omega) ?_; intro v' w12 hown hgr _; obtain ⟨A', c', rfl⟩ := own_form hown; have Q12 := Lib.hid (HEV.out.q12 hgr); have HCLO := Lib.hid (ERel.close hlj HOK.out HLT.out hlt hm15 HAS.out HCL.out HTM.out HFIT.out HPN.out rfl HEV.out.q HEV.out.qw HEV.out.o HEV.out.c HEV.out.z HEV.out.z1 HEV.out.g HEV.out.t hT hgr hown); clear hown hgr; obtain ⟨r0, r1⟩ := geCells Q12.out; have r2 : w12.frozen? ⟨Q, 1, none⟩ = false := frozen_of_row _ _ _ _ _ Q12.out)
          rw [setCell_eq_setRow w12 Q 1 _ _ _ _ Q12.out]
          exact ⟨⟨j + 1, by omega, by go_num, HCLO.out⟩, by simp [intOf]; omega⟩
        · obtain ⟨n0, n1, n2, n3, n4, n5, n6⟩ := accCells (x := ⟨tm, 2, p, 0, 0, 0, 0⟩) HEV0.out.xb
          simp only at n0 n1 n2 n3 n4 n5 n6
          obtain ⟨g0, g1⟩ := geCells HEV0.out.q
          obtain ⟨h0', h1'⟩ := gdCells HEV0.out.z
          have hw1 : IntKind.i64.wrap ((d.k.length : Int) + 1) = (d.k.length : Int) + 1 := IntWalk.i64_in _ (by omega)
          have HNX2 := Lib.hid (next_any T ((d.k.length : Int) + 1) W HEV0.out.t (by omega) (by omega))
          go_wp2_with fail
          refine HNX2.out.mono ?_
          rintro e w4 ⟨r, r0, r1, rfl, hg4, ht4⟩
          obtain ⟨rn, rfl⟩ : ∃ rn : Nat, r = rn := ⟨r.toNat, by omega⟩
          have HE4 := Lib.hid (HEV0.out.next hg4 ht4)
          clear hg4 ht4
          clear n0 n1 n2 n3 n4 n5 n6 g0 g1 h0' h1'
          obtain ⟨V, hV⟩ : ∃ V, w4.setCell ⟨G, 3, none⟩ (.int .i64 (rn : Int)) = V := ⟨_, rfl⟩
          have HEV := Lib.hid (show EvW T Q G n w d v cl (some ⟨b, off, none⟩) cc m E Ae ce ⟨tm, 2, p, rn, 0, 0, 0⟩ V from hV ▸ HE4.out.set 3 (.int .i64 (rn : Int)) ⟨tm, 2, p, rn, 0, 0, 0⟩ rfl)
          have q4 : w4.frozen? ⟨G, 3, none⟩ = false := frozen_of_row _ _ _ _ _ HE4.out.xb
          have q5 := (accCells HE4.out.xb)
          unfold AcAt at q5
          obtain ⟨c0, c1, c2, c3, c4, c5, c6⟩ := q5
          simp only at c0 c1 c2 c3 c4 c5 c6
          obtain ⟨n0, n1, n2, n3, n4, n5, n6⟩ := accCells (x := ⟨tm, 2, p, rn, 0, 0, 0⟩) HEV.out.xb
          simp only at n0 n1 n2 n3 n4 n5 n6
          obtain ⟨g0, g1⟩ := geCells HEV.out.q
          obtain ⟨h0', h1'⟩ := gdCells HEV.out.z
          have HFIT := Lib.hid (show fitP n ⟨tm, 2, p, rn, 0, 0, 0⟩ by simp [fitP]; (first | done | omega))
          go_wp2_with (at_builtin; refine wpList_append_own _ rfl (.tmp 69) (.tmp 71) 26 rfl w.heap.size 76 j0 (.agg #[.int .i64 0, .int .i64 0, .int .i64 0, .int .i64 0, .int .i64 0, .int .i64 0, .int .i64 0]) 7 56 Tryz.underlying26 HJ.out HJ0.out HJ1.out HJ2.out rfl (by decide) _ E.length (av E) rfl (HEV.out.o.alloc _) ⟨V.heap.size, 0, none⟩ 1 1 [.int .i64 (tm : Int), .int .i64 2, .int .i64 (p : Int), .int .i64 (rn : Int), .int .i64 0, .int .i64 0, .int .i64 0] rfl rfl (World.news_of_block (heap_alloc_new V _)) (by simp [Value.oneCell']) (by unfold maxLen; omega) (by omega) (by have := HEV.out.g.size; simp; omega) ?_; intro v' w12 hown hgr _; obtain ⟨A', c', rfl⟩ := own_form hown; have Q12 := Lib.hid (HEV.out.q12 hgr); have HCLO := Lib.hid (ERel.close hlj HOK.out HLT.out hlt hm15 HAS.out HCL.out HTM.out HFIT.out HPN.out rfl HEV.out.q HEV.out.qw HEV.out.o HEV.out.c HEV.out.z HEV.out.z1 HEV.out.g HEV.out.t hT hgr hown); clear hown hgr; obtain ⟨r0, r1⟩ := geCells Q12.out; have r2 : w12.frozen? ⟨Q, 1, none⟩ = false := frozen_of_row _ _ _ _ _ Q12.out)
          rw [setCell_eq_setRow w12 Q 1 _ _ _ _ Q12.out]
          exact ⟨⟨j + 1, by omega, by go_num, HCLO.out⟩, by simp [intOf]; omega⟩
        · obtain ⟨n0, n1, n2, n3, n4, n5, n6⟩ := accCells (x := ⟨tm, 3, p, 0, 0, 0, 0⟩) HEV0.out.xb
          simp only at n0 n1 n2 n3 n4 n5 n6
          obtain ⟨g0, g1⟩ := geCells HEV0.out.q
          obtain ⟨h0', h1'⟩ := gdCells HEV0.out.z
          have hw1 : IntKind.i64.wrap ((tm : Int) + 1) = (tm : Int) + 1 := IntWalk.i64_in _ (by omega)
          have HNX2 := Lib.hid (next_any T (5) W HEV0.out.t (by omega) (by omega))
          go_wp2_with fail
          refine HNX2.out.mono ?_
          rintro e w4 ⟨r, r0, r1, rfl, hg4, ht4⟩
          obtain ⟨rn, rfl⟩ : ∃ rn : Nat, r = rn := ⟨r.toNat, by omega⟩
          have HE4 := Lib.hid (HEV0.out.next hg4 ht4)
          clear hg4 ht4
          clear n0 n1 n2 n3 n4 n5 n6 g0 g1 h0' h1'
          have hw2 : IntKind.i64.wrap ((tm : Int) + 1 + (rn : Int)) = (tm : Int) + 1 + (rn : Int) := IntWalk.i64_in _ (by omega)
          obtain ⟨un, hun⟩ : ∃ un : Nat, tm + 1 + rn = un := ⟨_, rfl⟩
          have hun2 : (tm : Int) + 1 + (rn : Int) = (un : Int) := by omega
          have hun3 : un ≤ 2000 := by omega
          obtain ⟨V, hV⟩ : ∃ V, w4.setCell ⟨G, 4, none⟩ (.int .i64 (un : Int)) = V := ⟨_, rfl⟩
          have HEV := Lib.hid (show EvW T Q G n w d v cl (some ⟨b, off, none⟩) cc m E Ae ce ⟨tm, 3, p, 0, un, 0, 0⟩ V from hV ▸ HE4.out.set 4 (.int .i64 (un : Int)) ⟨tm, 3, p, 0, un, 0, 0⟩ rfl)
          have q4 : w4.frozen? ⟨G, 4, none⟩ = false := frozen_of_row _ _ _ _ _ HE4.out.xb
          have q5 := (accCells HE4.out.xb)
          unfold AcAt at q5
          obtain ⟨c0, c1, c2, c3, c4, c5, c6⟩ := q5
          simp only at c0 c1 c2 c3 c4 c5 c6
          obtain ⟨n0, n1, n2, n3, n4, n5, n6⟩ := accCells (x := ⟨tm, 3, p, 0, un, 0, 0⟩) HEV.out.xb
          simp only at n0 n1 n2 n3 n4 n5 n6
          obtain ⟨g0, g1⟩ := geCells HEV.out.q
          obtain ⟨h0', h1'⟩ := gdCells HEV.out.z
          have HFIT := Lib.hid (show fitP n ⟨tm, 3, p, 0, un, 0, 0⟩ by simp [fitP]; (first | done | omega))
          go_wp2_with (at_builtin; refine wpList_append_own _ rfl (.tmp 69) (.tmp 71) 26 rfl w.heap.size 76 j0 (.agg #[.int .i64 0, .int .i64 0, .int .i64 0, .int .i64 0, .int .i64 0, .int .i64 0, .int .i64 0]) 7 56 Tryz.underlying26 HJ.out HJ0.out HJ1.out HJ2.out rfl (by decide) _ E.length (av E) rfl (HEV.out.o.alloc _) ⟨V.heap.size, 0, none⟩ 1 1 [.int .i64 (tm : Int), .int .i64 3, .int .i64 (p : Int), .int .i64 0, .int .i64 (un : Int), .int .i64 0, .int .i64 0] rfl rfl (World.news_of_block (heap_alloc_new V _)) (by simp [Value.oneCell']) (by unfold maxLen; omega) (by omega) (by have := HEV.out.g.size; simp; omega) ?_; intro v' w12 hown hgr _; obtain ⟨A', c', rfl⟩ := own_form hown; have Q12 := Lib.hid (HEV.out.q12 hgr); have HCLO := Lib.hid (ERel.close hlj HOK.out HLT.out hlt hm15 HAS.out HCL.out HTM.out HFIT.out HPN.out rfl HEV.out.q HEV.out.qw HEV.out.o HEV.out.c HEV.out.z HEV.out.z1 HEV.out.g HEV.out.t hT hgr hown); clear hown hgr; obtain ⟨r0, r1⟩ := geCells Q12.out; have r2 : w12.frozen? ⟨Q, 1, none⟩ = false := frozen_of_row _ _ _ _ _ Q12.out)
          rw [setCell_eq_setRow w12 Q 1 _ _ _ _ Q12.out]
          exact ⟨⟨j + 1, by omega, by go_num, HCLO.out⟩, by simp [intOf]; omega⟩
        · obtain ⟨V, hV⟩ : ∃ V, W = V := ⟨_, rfl⟩
          subst hV
          have HEV := HEV0
          obtain ⟨n0, n1, n2, n3, n4, n5, n6⟩ := accCells (x := ⟨tm, 4, p, 0, 0, 0, 0⟩) HEV.out.xb
          simp only at n0 n1 n2 n3 n4 n5 n6
          obtain ⟨g0, g1⟩ := geCells HEV.out.q
          obtain ⟨h0', h1'⟩ := gdCells HEV.out.z
          have HFIT := Lib.hid (show fitP n ⟨tm, 4, p, 0, 0, 0, 0⟩ by simp [fitP]; (first | done | omega))
          go_wp2_with (at_builtin; refine wpList_append_own _ rfl (.tmp 69) (.tmp 71) 26 rfl w.heap.size 76 j0 (.agg #[.int .i64 0, .int .i64 0, .int .i64 0, .int .i64 0, .int .i64 0, .int .i64 0, .int .i64 0]) 7 56 Tryz.underlying26 HJ.out HJ0.out HJ1.out HJ2.out rfl (by decide) _ E.length (av E) rfl (HEV.out.o.alloc _) ⟨W.heap.size, 0, none⟩ 1 1 [.int .i64 (tm : Int), .int .i64 4, .int .i64 (p : Int), .int .i64 0, .int .i64 0, .int .i64 0, .int .i64 0] rfl rfl (World.news_of_block (heap_alloc_new W _)) (by simp [Value.oneCell']) (by unfold maxLen; omega) (by omega) (by have := HEV.out.g.size; simp; omega) ?_; intro v' w12 hown hgr _; obtain ⟨A', c', rfl⟩ := own_form hown; have Q12 := Lib.hid (HEV.out.q12 hgr); have HCLO := Lib.hid (ERel.close hlj HOK.out HLT.out hlt hm15 HAS.out HCL.out HTM.out HFIT.out HPN.out rfl HEV.out.q HEV.out.qw HEV.out.o HEV.out.c HEV.out.z HEV.out.z1 HEV.out.g HEV.out.t hT hgr hown); clear hown hgr; obtain ⟨r0, r1⟩ := geCells Q12.out; have r2 : w12.frozen? ⟨Q, 1, none⟩ = false := frozen_of_row _ _ _ _ _ Q12.out)
          rw [setCell_eq_setRow w12 Q 1 _ _ _ _ Q12.out]
          exact ⟨⟨j + 1, by omega, by go_num, HCLO.out⟩, by simp [intOf]; omega⟩
        · obtain ⟨n0, n1, n2, n3, n4, n5, n6⟩ := accCells (x := ⟨tm, 5, p, 0, 0, 0, 0⟩) HEV0.out.xb
          simp only at n0 n1 n2 n3 n4 n5 n6
          obtain ⟨g0, g1⟩ := geCells HEV0.out.q
          obtain ⟨h0', h1'⟩ := gdCells HEV0.out.z
          have HNX2 := Lib.hid (next_any T (3) W HEV0.out.t (by omega) (by omega))
          go_wp2_with fail
          refine HNX2.out.mono ?_
          rintro e w4 ⟨r, r0, r1, rfl, hg4, ht4⟩
          obtain ⟨rn, rfl⟩ : ∃ rn : Nat, r = rn := ⟨r.toNat, by omega⟩
          have HE4 := Lib.hid (HEV0.out.next hg4 ht4)
          clear hg4 ht4
          clear n0 n1 n2 n3 n4 n5 n6 g0 g1 h0' h1'
          obtain ⟨V, hV⟩ : ∃ V, w4.setCell ⟨G, 5, none⟩ (.int .i64 (rn : Int)) = V := ⟨_, rfl⟩
          have HEV := Lib.hid (show EvW T Q G n w d v cl (some ⟨b, off, none⟩) cc m E Ae ce ⟨tm, 5, p, 0, 0, rn, 0⟩ V from hV ▸ HE4.out.set 5 (.int .i64 (rn : Int)) ⟨tm, 5, p, 0, 0, rn, 0⟩ rfl)
          have q4 : w4.frozen? ⟨G, 5, none⟩ = false := frozen_of_row _ _ _ _ _ HE4.out.xb
          have q5 := (accCells HE4.out.xb)
          unfold AcAt at q5
          obtain ⟨c0, c1, c2, c3, c4, c5, c6⟩ := q5
          simp only at c0 c1 c2 c3 c4 c5 c6
          obtain ⟨n0, n1, n2, n3, n4, n5, n6⟩ := accCells (x := ⟨tm, 5, p, 0, 0, rn, 0⟩) HEV.out.xb
          simp only at n0 n1 n2 n3 n4 n5 n6
          obtain ⟨g0, g1⟩ := geCells HEV.out.q
          obtain ⟨h0', h1'⟩ := gdCells HEV.out.z
          have HFIT := Lib.hid (show fitP n ⟨tm, 5, p, 0, 0, rn, 0⟩ by simp [fitP]; (first | done | omega))
          go_wp2_with (at_builtin; refine wpList_append_own _ rfl (.tmp 69) (.tmp 71) 26 rfl w.heap.size 76 j0 (.agg #[.int .i64 0, .int .i64 0, .int .i64 0, .int .i64 0, .int .i64 0, .int .i64 0, .int .i64 0]) 7 56 Tryz.underlying26 HJ.out HJ0.out HJ1.out HJ2.out rfl (by decide) _ E.length (av E) rfl (HEV.out.o.alloc _) ⟨V.heap.size, 0, none⟩ 1 1 [.int .i64 (tm : Int), .int .i64 5, .int .i64 (p : Int), .int .i64 0, .int .i64 0, .int .i64 (rn : Int), .int .i64 0] rfl rfl (World.news_of_block (heap_alloc_new V _)) (by simp [Value.oneCell']) (by unfold maxLen; omega) (by omega) (by have := HEV.out.g.size; simp; omega) ?_; intro v' w12 hown hgr _; obtain ⟨A', c', rfl⟩ := own_form hown; have Q12 := Lib.hid (HEV.out.q12 hgr); have HCLO := Lib.hid (ERel.close hlj HOK.out HLT.out hlt hm15 HAS.out HCL.out HTM.out HFIT.out HPN.out rfl HEV.out.q HEV.out.qw HEV.out.o HEV.out.c HEV.out.z HEV.out.z1 HEV.out.g HEV.out.t hT hgr hown); clear hown hgr; obtain ⟨r0, r1⟩ := geCells Q12.out; have r2 : w12.frozen? ⟨Q, 1, none⟩ = false := frozen_of_row _ _ _ _ _ Q12.out)
          rw [setCell_eq_setRow w12 Q 1 _ _ _ _ Q12.out]
          exact ⟨⟨j + 1, by omega, by go_num, HCLO.out⟩, by simp [intOf]; omega⟩
        · obtain ⟨n0, n1, n2, n3, n4, n5, n6⟩ := accCells (x := ⟨tm, 6, p, 0, 0, 0, 0⟩) HEV0.out.xb
          simp only at n0 n1 n2 n3 n4 n5 n6
          obtain ⟨g0, g1⟩ := geCells HEV0.out.q
          obtain ⟨h0', h1'⟩ := gdCells HEV0.out.z
          have HNX2 := Lib.hid (next_any T (3) W HEV0.out.t (by omega) (by omega))
          go_wp2_with fail
          refine HNX2.out.mono ?_
          rintro e w4 ⟨r, r0, r1, rfl, hg4, ht4⟩
          obtain ⟨rn, rfl⟩ : ∃ rn : Nat, r = rn := ⟨r.toNat, by omega⟩
          have HE4 := Lib.hid (HEV0.out.next hg4 ht4)
          clear hg4 ht4
          clear n0 n1 n2 n3 n4 n5 n6 g0 g1 h0' h1'
          obtain ⟨V, hV⟩ : ∃ V, w4.setCell ⟨G, 5, none⟩ (.int .i64 (rn : Int)) = V := ⟨_, rfl⟩
          have HEV := Lib.hid (show EvW T Q G n w d v cl (some ⟨b, off, none⟩) cc m E Ae ce ⟨tm, 6, p, 0, 0, rn, 0⟩ V from hV ▸ HE4.out.set 5 (.int .i64 (rn : Int)) ⟨tm, 6, p, 0, 0, rn, 0⟩ rfl)
          have q4 : w4.frozen? ⟨G, 5, none⟩ = false := frozen_of_row _ _ _ _ _ HE4.out.xb
          have q5 := (accCells HE4.out.xb)
          unfold AcAt at q5
          obtain ⟨c0, c1, c2, c3, c4, c5, c6⟩ := q5
          simp only at c0 c1 c2 c3 c4 c5 c6
          obtain ⟨n0, n1, n2, n3, n4, n5, n6⟩ := accCells (x := ⟨tm, 6, p, 0, 0, rn, 0⟩) HEV.out.xb
          simp only at n0 n1 n2 n3 n4 n5 n6
          obtain ⟨g0, g1⟩ := geCells HEV.out.q
          obtain ⟨h0', h1'⟩ := gdCells HEV.out.z
          have HFIT := Lib.hid (show fitP n ⟨tm, 6, p, 0, 0, rn, 0⟩ by simp [fitP]; (first | done | omega))
          go_wp2_with (at_builtin; refine wpList_append_own _ rfl (.tmp 69) (.tmp 71) 26 rfl w.heap.size 76 j0 (.agg #[.int .i64 0, .int .i64 0, .int .i64 0, .int .i64 0, .int .i64 0, .int .i64 0, .int .i64 0]) 7 56 Tryz.underlying26 HJ.out HJ0.out HJ1.out HJ2.out rfl (by decide) _ E.length (av E) rfl (HEV.out.o.alloc _) ⟨V.heap.size, 0, none⟩ 1 1 [.int .i64 (tm : Int), .int .i64 6, .int .i64 (p : Int), .int .i64 0, .int .i64 0, .int .i64 (rn : Int), .int .i64 0] rfl rfl (World.news_of_block (heap_alloc_new V _)) (by simp [Value.oneCell']) (by unfold maxLen; omega) (by omega) (by have := HEV.out.g.size; simp; omega) ?_; intro v' w12 hown hgr _; obtain ⟨A', c', rfl⟩ := own_form hown; have Q12 := Lib.hid (HEV.out.q12 hgr); have HCLO := Lib.hid (ERel.close hlj HOK.out HLT.out hlt hm15 HAS.out HCL.out HTM.out HFIT.out HPN.out rfl HEV.out.q HEV.out.qw HEV.out.o HEV.out.c HEV.out.z HEV.out.z1 HEV.out.g HEV.out.t hT hgr hown); clear hown hgr; obtain ⟨r0, r1⟩ := geCells Q12.out; have r2 : w12.frozen? ⟨Q, 1, none⟩ = false := frozen_of_row _ _ _ _ _ Q12.out)
          rw [setCell_eq_setRow w12 Q 1 _ _ _ _ Q12.out]
          exact ⟨⟨j + 1, by omega, by go_num, HCLO.out⟩, by simp [intOf]; omega⟩
        · obtain ⟨n0, n1, n2, n3, n4, n5, n6⟩ := accCells (x := ⟨tm, 7, p, 0, 0, 0, 0⟩) HEV0.out.xb
          simp only at n0 n1 n2 n3 n4 n5 n6
          obtain ⟨g0, g1⟩ := geCells HEV0.out.q
          obtain ⟨h0', h1'⟩ := gdCells HEV0.out.z
          have HNX2 := Lib.hid (next_any T (n) W HEV0.out.t (by omega) (by omega))
          go_wp2_with fail
          refine HNX2.out.mono ?_
          rintro e w4 ⟨r, r0, r1, rfl, hg4, ht4⟩
          obtain ⟨rn, rfl⟩ : ∃ rn : Nat, r = rn := ⟨r.toNat, by omega⟩
          have HE4 := Lib.hid (HEV0.out.next hg4 ht4)
          clear hg4 ht4
          clear n0 n1 n2 n3 n4 n5 n6 g0 g1 h0' h1'
          obtain ⟨V, hV⟩ : ∃ V, w4.setCell ⟨G, 6, none⟩ (.int .i64 (rn : Int)) = V := ⟨_, rfl⟩
          have HEV := Lib.hid (show EvW T Q G n w d v cl (some ⟨b, off, none⟩) cc m E Ae ce ⟨tm, 7, p, 0, 0, 0, rn⟩ V from hV ▸ HE4.out.set 6 (.int .i64 (rn : Int)) ⟨tm, 7, p, 0, 0, 0, rn⟩ rfl)
          have q4 : w4.frozen? ⟨G, 6, none⟩ = false := frozen_of_row _ _ _ _ _ HE4.out.xb
          have q5 := (accCells HE4.out.xb)
          unfold AcAt at q5
          obtain ⟨c0, c1, c2, c3, c4, c5, c6⟩ := q5
          simp only at c0 c1 c2 c3 c4 c5 c6
          obtain ⟨n0, n1, n2, n3, n4, n5, n6⟩ := accCells (x := ⟨tm, 7, p, 0, 0, 0, rn⟩) HEV.out.xb
          simp only at n0 n1 n2 n3 n4 n5 n6
          obtain ⟨g0, g1⟩ := geCells HEV.out.q
          obtain ⟨h0', h1'⟩ := gdCells HEV.out.z
          by_cases hsame : rn = p
          · have e1 : ((rn : Int) == (p : Int)) = true := by rw [hsame]; simp
            clear hsame
            go_wp2_with fail
            exact ⟨⟨j + 1, by omega, by go_num, ERel.same hlj HOK.out HLT.out HEV.out.q HEV.out.o HEV.out.c HEV.out.z HEV.out.z1 HEV.out.g HEV.out.t⟩, by simp [intOf]; omega⟩
          · have e1 : ((rn : Int) == (p : Int)) = false := beq_eq_false_iff_ne.2 (by omega)
            have HFIT := Lib.hid (show fitP n ⟨tm, 7, p, 0, 0, 0, rn⟩ by simp [fitP]; (first | done | omega))
            go_wp2_with (at_builtin; refine wpList_append_own _ rfl (.tmp 69) (.tmp 71) 26 rfl w.heap.size 76 j0 (.agg #[.int .i64 0, .int .i64 0, .int .i64 0, .int .i64 0, .int .i64 0, .int .i64 0, .int .i64 0]) 7 56 Tryz.underlying26 HJ.out HJ0.out HJ1.out HJ2.out rfl (by decide) _ E.length (av E) rfl (HEV.out.o.alloc _) ⟨V.heap.size, 0, none⟩ 1 1 [.int .i64 (tm : Int), .int .i64 7, .int .i64 (p : Int), .int .i64 0, .int .i64 0, .int .i64 0, .int .i64 (rn : Int)] rfl rfl (World.news_of_block (heap_alloc_new V _)) (by simp [Value.oneCell']) (by unfold maxLen; omega) (by omega) (by have := HEV.out.g.size; simp; omega) ?_; intro v' w12 hown hgr _; obtain ⟨A', c', rfl⟩ := own_form hown; have Q12 := Lib.hid (HEV.out.q12 hgr); have HCLO := Lib.hid (ERel.close hlj HOK.out HLT.out hlt hm15 HAS.out HCL.out HTM.out HFIT.out HPN.out rfl HEV.out.q HEV.out.qw HEV.out.o HEV.out.c HEV.out.z HEV.out.z1 HEV.out.g HEV.out.t hT hgr hown); clear hown hgr; obtain ⟨r0, r1⟩ := geCells Q12.out; have r2 : w12.frozen? ⟨Q, 1, none⟩ = false := frozen_of_row _ _ _ _ _ Q12.out)
            rw [setCell_eq_setRow w12 Q 1 _ _ _ _ Q12.out]
            exact ⟨⟨j + 1, by omega, by go_num, HCLO.out⟩, by simp [intOf]; omega⟩
    · obtain rfl : m = j := by omega
      clear hown hoc hz hz1 hq hgb htp
      have HMK := Lib.hid (⟨HOK.out, hn1, by show E.length ≤ 15; omega, fun i hi => (HLT.out i hi).1⟩ : MkE ⟨n, E⟩)
      obtain ⟨z0, z1, z2, z3⟩ := zeCells HZ1.out
      have HR := Lib.hid (setRow_heap wr (w.heap.size + 1) _ (ge ⟨n, E⟩ ⟨Ae, ce⟩) _ _ HZ1.out)
      have HEL := Lib.hid (row_of_own (kept_ne HO.out (gb_setRow wr (w.heap.size + 1) (ge ⟨n, E⟩ ⟨Ae, ce⟩)) (fun g e => by cases e; exact own_not HO.out HZ1.out (by decide))))
      go_wp2_with fail
      rw [set2row (g := w.heap.size + 1) HZ1.out rfl]
      exact bodyPost_ret (v := .agg (ge ⟨n, E⟩ ⟨Ae, ce⟩)) (results_cell_row rfl _ _ (w.heap.size + 1) 28 (ge ⟨n, E⟩ ⟨Ae, ce⟩) (0, 0) _ rfl HR.out Tryz.underlying28 rfl (infoEs _ _)) rfl ⟨_, _, rfl, HMK.out, HEL.out, gb_far HGB.out (by omega) _, tape_set HTP.out (by omega) _⟩

end Go.Proofs.YtgknfkmojhganaaGreat.Di
