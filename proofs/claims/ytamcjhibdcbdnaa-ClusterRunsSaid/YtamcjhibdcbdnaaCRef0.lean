import Derived.Test.YtamcjhibdcbdnaaCCopy
import Derived.Laws.ResultCell
import Derived.Laws.OwnMore
namespace Go.Proofs.Ytamcjhibdcbdnaa.Cl
open Go.RowKit
open Go.Proofs.Ytamcjhibdcbdnaa.Tp
set_option linter.unusedVariables false

theorem results_cell_row2 {P : Program} {fn : Func} {p u : Tmp} {ty : TypeId} (h : fn.results = #[.cell p ty, .tmp u]) (tmps : Array Value) (w : World) (g : Nat) (t : TypeId) (cs : Array Value) (fr : Nat × Nat) (d : TypeDesc)
    (hp : tmps.getD p undef = .pointer (some ⟨g, 0, none⟩)) (hg : w.heap[g]? = some (.cells cs t fr))
    (hu : P.underlying ty = some d) (hd : (match d with | .struct _ | .array _ _ => true | _ => false) = true) (hi : (P.info? ty).map (·.size) = some cs.size) :
    (results fn tmps).run P w = .ok (.tuple #[.agg cs, tmps.getD u undef]) w := by
  rw [results_cell_tmp h, hp]
  simp [asAddr, run_loadVar_row w g t ty cs fr d hg hu hd hi]

/-- An event as cells. -/
def ec (k i q b : Int) : Array Value := #[.int .i64 k, .int .i64 i, .int .i64 q, .int .i64 b]
theorem info27 (k i q b : Int) : (Try.prog.info? 27).map (·.size) = some (ec k i q b).size := by
  have h : (Try.prog.info? 27).map (·.size) = some 4 := by kernel_rfl
  exact h
theorem ec_one (k i q b : Int) : (ec k i q b).all (·.oneCell') = true := by simp [ec, Value.oneCell']
theorem ecCells {w : World} {k i q b : Int} {g : Nat} (h : w.heap[g]? = some (.cells (ec k i q b) 27 (0, 0))) :
    w.cell? ⟨g, 0, none⟩ = some (.int .i64 k) ∧ w.cell? ⟨g, 1, none⟩ = some (.int .i64 i) ∧ w.cell? ⟨g, 2, none⟩ = some (.int .i64 q) ∧ w.cell? ⟨g, 3, none⟩ = some (.int .i64 b) := by
  refine ⟨?_, ?_, ?_, ?_⟩ <;> rw [cell_of_row _ _ _ _ _ _ h] <;> rfl

/-- What an event that fits gives. -/
def RPost (c' : Cl) (w : World) (e : Ending) (w' : World) : Prop := ∃ v', e = .returned (.tuple #[.agg (cv c' v'), .int .i64 0]) ∧ CL w' w.heap.size c' v' ∧ Below w.heap.size w w'

def BPost (w : World) (e : Ending) (w' : World) : Prop := e = .returned (.tuple #[.agg zC, .int .i64 39]) ∧ Below w.heap.size w w'
theorem infoz : (Try.prog.info? 25).map (·.size) = some zC.size := by
  have h : (Try.prog.info? 25).map (·.size) = some 4 := by kernel_rfl
  exact h

/-- The three boxes of a call of Apply. -/
theorem boxes3 (w : World) (X Y Z : Obj) : ((w.alloc X).alloc Y).alloc Z = ((w.alloc X).alloc Y).alloc Z ∧ (((w.alloc X).alloc Y).alloc Z).heap[w.heap.size]? = some X ∧ (((w.alloc X).alloc Y).alloc Z).heap[w.heap.size + 1]? = some Y ∧ (((w.alloc X).alloc Y).alloc Z).heap[w.heap.size + 2]? = some Z ∧ Below w.heap.size w (((w.alloc X).alloc Y).alloc Z) := by
  have a1 := heap_alloc_new w X
  have a2 := heap_alloc_new (w.alloc X) Y
  have a3 := heap_alloc_new ((w.alloc X).alloc Y) Z
  have z1 : (w.alloc X).heap.size = w.heap.size + 1 := by simp
  have z2 : ((w.alloc X).alloc Y).heap.size = w.heap.size + 2 := by simp
  rw [z1] at a2
  rw [z2] at a3
  refine ⟨rfl, (heap_alloc_old _ _ (by simp; omega)).trans ((heap_alloc_old _ _ (by simp)).trans a1), (heap_alloc_old _ _ (by simp)).trans a2, a3, ?_⟩
  exact ((box_below w X).trans ((box_below _ Y).mono (by simp))).trans ((box_below _ Z).mono (by simp; omega))

theorem new_row (w : World) (o cs : Array Value) (t : TypeId) : Below w.heap.size w ((w.alloc (.cells o t)).setRow w.heap.size cs) ∧ ((w.alloc (.cells o t)).setRow w.heap.size cs).heap[w.heap.size]? = some (.cells cs t (0, 0)) ∧ w.heap.size + 1 ≤ ((w.alloc (.cells o t)).setRow w.heap.size cs).heap.size :=
  ⟨below_setRow (box_below w _) (Nat.le_refl _) _, setRow_heap _ _ _ _ _ _ (heap_alloc_new _ _), by simp⟩

theorem own_form {w : World} {B e s n : Nat} {v : Value} {xs : List Value} (h : w.ownsRow B e s v n xs) : ∃ A c, v = .slice A n c := by
  obtain ⟨A, c, e, _⟩ := own_row h h.1
  exact ⟨A, c, e⟩
theorem own_ne {w : World} {B e s n e' s' n' B' : Nat} {v v' : Value} {xs xs' : List Value} (h : w.ownsRow B e s v n xs) (h' : w.ownsRow B' e' s' v' n' xs') (hne : e ≠ e') (g : Nat) (hg : v.ownBlock = some g) : v'.ownBlock ≠ some g := by
  intro hg'
  rcases h.2 with ⟨rfl, _⟩ | ⟨k, cap, cur, rfl, _, hh, _⟩
  · cases hg
  · rcases h'.2 with ⟨rfl, _⟩ | ⟨k', cap', cur', rfl, _, hh', _⟩
    · cases hg'
    · cases hg
      cases hg'
      rw [hh] at hh'
      injection hh' with q
      injection q with _ q2
      exact hne q2

theorem kept_ne {w w' : World} {B e s n : Nat} {v : Value} {xs : List Value} {row : Option Nat} (h : w.ownsRow B e s v n xs) (hg : w.grownBy w' row) (hne : ∀ g, row = some g → v.ownBlock ≠ some g) : w'.ownsRow B e s v n xs :=
  h.kept hg (by
    cases hv : v.ownBlock with
    | none => exact .inl rfl
    | some k => exact .inr (fun e => hne k e.symm hv))

/-- Behind an append to the sets. -/
theorem own_app1 {W w6 : World} {B : Nat} {c : Cl} {u : Vl} {o : Obj} {b : Nat} {A' : Option Addr} {c' : Nat} (h : Own W B c u) (hgr : (W.alloc o).grownBy w6 (Value.slice u.A1 c.s.length u.c1).ownBlock)
    (hown : w6.ownsRow B 3 1 (.slice A' (c.s.length + 1) c') (c.s.length + 1) (iv (c.s ++ [b]))) : CL w6 B ⟨c.f, c.s ++ [b], c.r, c.p⟩ ⟨A', c', u.A2, u.c2, u.A3, u.c3⟩ := by
  have h1 := row_of_own hown
  have e : (c.s ++ [b]).length = c.s.length + 1 := by simp
  exact ⟨by rw [← e] at h1; exact h1, row_of_own (kept_ne (h.o2.alloc o) hgr (fun g hg => own_ne h.o1 h.o2 (by decide) g hg)), row_of_own (kept_ne (h.o3.alloc o) hgr (fun g hg h3 => h.ne g hg h3))⟩
/-- Behind an append to the snapshots. -/
theorem own_app3 {W w6 : World} {B : Nat} {c : Cl} {u : Vl} {o : Obj} {b : Nat} {A' : Option Addr} {c' : Nat} (h : Own W B c u) (hgr : (W.alloc o).grownBy w6 (Value.slice u.A3 c.p.length u.c3).ownBlock)
    (hown : w6.ownsRow B 3 1 (.slice A' (c.p.length + 1) c') (c.p.length + 1) (iv (c.p ++ [b]))) : CL w6 B ⟨c.f, c.s, c.r, c.p ++ [b]⟩ ⟨u.A1, u.c1, u.A2, u.c2, A', c'⟩ := by
  have h1 := row_of_own hown
  have e : (c.p ++ [b]).length = c.p.length + 1 := by simp
  exact ⟨row_of_own (kept_ne (h.o1.alloc o) hgr (fun g hg h3 => h.ne g h3 hg)), row_of_own (kept_ne (h.o2.alloc o) hgr (fun g hg => own_ne h.o3 h.o2 (by decide) g hg)), by rw [← e] at h1; exact h1⟩

theorem CL.set {w : World} {B g : Nat} {c : Cl} {v : Vl} (h : CL w B c v) (hg : g < B) (cs : Array Value) : CL (w.setRow g cs) B c v := ⟨h.r1.set hg cs, h.r2.set hg cs, h.r3.set hg cs⟩
theorem cv_setr (c : Cl) (u : Vl) (i : Nat) (x : Nat × Bool) : cv ⟨c.f, c.s, c.r.set i x, c.p⟩ u = cv c u := by simp [cv]

theorem own_head {w : World} {B e s n c : Nat} {A : Option Addr} {xs : List Value} (h : w.ownsRow B e s (.slice A n c) n xs) (hn : 0 < n) : ∃ g, A = some ⟨g, 0, none⟩ ∧ B ≤ g ∧ g < w.heap.size := by
  rcases h.2 with ⟨e, h0⟩ | ⟨g, cap, cur, e, hb, hh, _⟩
  · omega
  · cases e
    exact ⟨g, rfl, hb, row_lt hh⟩

/-- A replica is stored. -/
theorem own_setr {W : World} {B g i : Nat} {c : Cl} {u : Vl} {x : Nat × Bool} (h : Own W B c u) (hA : u.A2 = some ⟨g, 0, none⟩) (hi : i < c.r.length) :
    CL ((W.setCell ⟨g, i * 2, none⟩ (.int .i64 (x.1 : Int))).setCell ⟨g, i * 2 + 1, none⟩ (.bool x.2)) B ⟨c.f, c.s, c.r.set i x, c.p⟩ u ∧ W.grownBy ((W.setCell ⟨g, i * 2, none⟩ (.int .i64 (x.1 : Int))).setCell ⟨g, i * 2 + 1, none⟩ (.bool x.2)) (some g) := by
  have h2 := h.o2
  have hne1 := own_ne h.o2 h.o1 (by decide) g (by rw [hA]; rfl)
  have hne3 := own_ne h.o2 h.o3 (by decide) g (by rw [hA]; rfl)
  rw [hA] at h2
  obtain ⟨k1, q1⟩ := h2.stored (i * 2) (.int .i64 (x.1 : Int))
  obtain ⟨k2, q2⟩ := k1.stored (i * 2 + 1) (.bool x.2)
  have hg := gb_trans q1 q2
  have hl : (c.r.set i x).length = c.r.length := by simp
  have r2 := row_of_own k2
  rw [← rv_set _ _ _ hi] at r2
  refine ⟨⟨row_of_own (kept_ne h.o1 hg (fun k e => by cases e; exact hne1)), ?_, row_of_own (kept_ne h.o3 hg (fun k e => by cases e; exact hne3))⟩, hg⟩
  show Row _ B 2 u.A2 (c.r.set i x).length (rv (c.r.set i x))
  rw [hA, hl]
  exact r2

theorem gb_below {w W W' : World} {g : Nat} (hb : Below w.heap.size w W) (hg : W.grownBy W' (some g)) (h : w.heap.size ≤ g) : Below w.heap.size w W' := hb.grown hg hb.size (fun k e => by cases e; exact h)

theorem new_one (W : World) (x : Value) (t : TypeId) : Row (W.alloc (.cells #[x] t)) 0 1 (some ⟨W.heap.size, 0, none⟩) 1 [x] :=
  ⟨rfl, fun _ => ⟨W.heap.size, 0, rfl, Nat.zero_le _, by simp, fun j u hj => by
    have := cell_one_new W x t j u hj
    have ea : (⟨W.heap.size, 0, none⟩ : Addr).add j = ⟨W.heap.size, 0 + j, none⟩ := by unfold Addr.add; split <;> simp_all
    rwa [ea] at this⟩⟩
theorem Row.drew {w : World} {B s n : Nat} {A : Option Addr} {xs : List Value} (h : Row w B s A n xs) : Row w.drew B s A n xs := ⟨h.len, h.mem⟩
theorem CL.drew {w : World} {B : Nat} {c : Cl} {v : Vl} (h : CL w B c v) : CL w.drew B c v := ⟨h.r1.drew, h.r2.drew, h.r3.drew⟩
theorem gb_undrew {w w' : World} {row : Option Nat} (h : w.drew.grownBy w' row) : w.grownBy w' row := ⟨h.os, h.tape, h.output, h.size, h.block⟩
theorem cv_set1 (c : Cl) (u : Vl) (b : Nat) (A' : Option Addr) (c' : Nat) : (cv c u).setIfInBounds 1 (.slice A' (c.s.length + 1) c') = cv ⟨c.f, c.s ++ [b], c.r, c.p⟩ ⟨A', c', u.A2, u.c2, u.A3, u.c3⟩ := by
  simp [cv]
theorem cv_set3 (c : Cl) (u : Vl) (b : Nat) (A' : Option Addr) (c' : Nat) : (cv c u).setIfInBounds 3 (.slice A' (c.p.length + 1) c') = cv ⟨c.f, c.s, c.r, c.p ++ [b]⟩ ⟨u.A1, u.c1, u.A2, u.c2, A', c'⟩ := by
  simp [cv]

/-- Blocks that lie below an owned row stay. -/
theorem far_block {W w6 : World} {B n : Nat} {e s : Nat} {v : Value} {xs : List Value} {o : Obj} (h : W.ownsRow B e s v n xs) (hgr : (W.alloc o).grownBy w6 v.ownBlock) (k : Nat) (hk : k < B) (hlt : k < W.heap.size) : w6.heap[k]? = W.heap[k]? :=
  (hgr.block k (by simp; omega) (fun e => by have := (h.lt k e.symm).1; omega)).trans (heap_alloc_old _ _ hlt)
theorem far_below {w W w6 : World} {B n : Nat} {e s : Nat} {v : Value} {xs : List Value} {o : Obj} (hb : Below w.heap.size w W) (h : W.ownsRow B e s v n xs) (hgr : (W.alloc o).grownBy w6 v.ownBlock) (hB : w.heap.size ≤ B) : Below w.heap.size w w6 :=
  (hb.trans ((box_below W o).mono hb.size)).grown hgr (by have := hb.size; simp; omega) (fun g e => by have := (h.lt g e).1; omega)

end Go.Proofs.Ytamcjhibdcbdnaa.Cl
