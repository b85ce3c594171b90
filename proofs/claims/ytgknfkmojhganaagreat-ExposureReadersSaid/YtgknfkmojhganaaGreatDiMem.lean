import Derived.Test.YtgknfkmojhganaaGreatDiKit
namespace Go.Proofs.YtgknfkmojhganaaGreat.Di
open Go.RowKit
open Go.Proofs.YtgknfkmojhganaaGreat.Tp
set_option linter.unusedVariables false

/-- An event, as cells. -/
def ec (x : Mb) : Array Value := #[.int .i64 (x.t : Int), .int .i64 (x.k : Int), .int .i64 (x.p : Int), .int .i64 (x.g : Int)]
def ev : List Mb → List Value
  | [] => []
  | x :: l => [.int .i64 (x.t : Int), .int .i64 (x.k : Int), .int .i64 (x.p : Int), .int .i64 (x.g : Int)] ++ ev l
theorem ev_len : ∀ l, (ev l).length = l.length * 4
  | [] => rfl
  | x :: l => by
    have := ev_len l
    simp [ev, this]
    omega
theorem ev_snoc : ∀ (l : List Mb) (x : Mb), ev (l ++ [x]) = ev l ++ [.int .i64 (x.t : Int), .int .i64 (x.k : Int), .int .i64 (x.p : Int), .int .i64 (x.g : Int)]
  | [], x => by simp [ev]
  | y :: l, x => by simp [ev, ev_snoc l x]
theorem ev_at : ∀ (l : List Mb) (i : Nat), i < l.length → (ev l)[i * 4]? = some (.int .i64 (((l.getD i m0).t : Nat) : Int)) ∧ (ev l)[i * 4 + 1]? = some (.int .i64 (((l.getD i m0).k : Nat) : Int)) ∧ (ev l)[i * 4 + 2]? = some (.int .i64 (((l.getD i m0).p : Nat) : Int)) ∧ (ev l)[i * 4 + 3]? = some (.int .i64 (((l.getD i m0).g : Nat) : Int))
  | [], i, h => absurd h (by simp)
  | x :: l, 0, h => ⟨rfl, rfl, rfl, rfl⟩
  | x :: l, i + 1, h => by
    have ih := ev_at l i (by simpa using h)
    have e1 : (i + 1) * 4 = (i * 4) + 1 + 1 + 1 + 1 := by omega
    simp only [ev, e1]
    exact ih
theorem ev_one (l : List Mb) : ∀ u ∈ ev l, u.oneCell' = true := by
  induction l with
  | nil => intro u hu; simp [ev] at hu
  | cons x l ih =>
    intro u hu
    rcases List.mem_append.1 hu with h | h
    · simp at h
      rcases h with rfl | rfl | rfl | rfl <;> rfl
    · exact ih u h
theorem Row.evt {w : World} {B n : Nat} {A : Option Addr} {l : List Mb} (h : Row w B 4 A n (ev l)) {i : Nat} (hi : i < n) : ∃ b off, A = some ⟨b, off, none⟩ ∧ B ≤ b ∧ b < w.heap.size ∧ w.cell? ⟨b, off + i * 4, none⟩ = some (.int .i64 (((l.getD i m0).t : Nat) : Int)) ∧ w.cell? ⟨b, off + i * 4 + 1, none⟩ = some (.int .i64 (((l.getD i m0).k : Nat) : Int)) ∧ w.cell? ⟨b, off + i * 4 + 2, none⟩ = some (.int .i64 (((l.getD i m0).p : Nat) : Int)) ∧ w.cell? ⟨b, off + i * 4 + 3, none⟩ = some (.int .i64 (((l.getD i m0).g : Nat) : Int)) := by
  obtain ⟨b, off, e, hB, hlt, hc⟩ := h.mem (by omega)
  have hl := h.len
  rw [ev_len] at hl
  obtain ⟨a1, a2, a3, a4⟩ := ev_at l i (by omega)
  exact ⟨b, off, e, hB, hlt, hc _ _ a1, hc _ _ a2, hc _ _ a3, hc _ _ a4⟩

/-- A directory as a value. -/
structure Vd where
  A1 : Option Addr
  c1 : Nat
  A2 : Option Addr
  c2 : Nat
def gd (d : Dy) (v : Vd) : Array Value := #[.slice v.A1 d.k.length v.c1, .slice v.A2 d.e.length v.c2]
structure DL (w : World) (B : Nat) (d : Dy) (v : Vd) : Prop where
  r1 : Row w B 1 v.A1 d.k.length (iv d.k)
  r2 : Row w B 4 v.A2 d.e.length (ev d.e)
theorem DL.below {w w' : World} {B : Nat} {d : Dy} {v : Vd} (h : DL w B d v) (hb : Below w.heap.size w w') : DL w' B d v := ⟨h.r1.below hb, h.r2.below hb⟩
theorem DL.base {w : World} {B B' : Nat} {d : Dy} {v : Vd} (h : DL w B d v) (hb : B' ≤ B) : DL w B' d v := ⟨h.r1.base hb, h.r2.base hb⟩
theorem DL.grown {w w' : World} {B : Nat} {d : Dy} {v : Vd} {row : Option Nat} (h : DL w B d v) (hg : w.grownBy w' row) (hr : ∀ g, row = some g → g < B) : DL w' B d v := ⟨h.r1.grown hg hr, h.r2.grown hg hr⟩
theorem DL.set {w : World} {B g : Nat} {d : Dy} {v : Vd} (h : DL w B d v) (hg : g < B) (cs : Array Value) : DL (w.setRow g cs) B d v := ⟨h.r1.set hg cs, h.r2.set hg cs⟩
theorem DL.drew {w : World} {B : Nat} {d : Dy} {v : Vd} (h : DL w B d v) : DL w.drew B d v := ⟨h.r1.drew, h.r2.drew⟩
theorem gdCells {w : World} {d : Dy} {v : Vd} {t : TypeId} {o : Nat × Nat} {g : Nat} (h : w.heap[g]? = some (.cells (gd d v) t o)) :
    w.cell? ⟨g, 0, none⟩ = some (.slice v.A1 d.k.length v.c1) ∧ w.cell? ⟨g, 1, none⟩ = some (.slice v.A2 d.e.length v.c2) := by
  refine ⟨?_, ?_⟩ <;> rw [cell_of_row _ _ _ _ _ _ h] <;> rfl
theorem ecCells {w : World} {x : Mb} {t : TypeId} {o : Nat × Nat} {g : Nat} (h : w.heap[g]? = some (.cells (ec x) t o)) :
    w.cell? ⟨g, 0, none⟩ = some (.int .i64 (x.t : Int)) ∧ w.cell? ⟨g, 1, none⟩ = some (.int .i64 (x.k : Int)) ∧ w.cell? ⟨g, 2, none⟩ = some (.int .i64 (x.p : Int)) ∧ w.cell? ⟨g, 3, none⟩ = some (.int .i64 (x.g : Int)) := by
  refine ⟨?_, ?_, ?_, ?_⟩ <;> rw [cell_of_row _ _ _ _ _ _ h] <;> rfl
def zD : Array Value := #[.slice none 0 0, .slice none 0 0]
theorem zdCells {w : World} {g : Nat} (h : w.heap[g]? = some (.cells zD 25 (0, 0))) : w.cell? ⟨g, 0, none⟩ = some (.slice none 0 0) ∧ w.cell? ⟨g, 1, none⟩ = some (.slice none 0 0) ∧ w.frozen? ⟨g, 0, none⟩ = false ∧ w.frozen? ⟨g, 1, none⟩ = false := by
  refine ⟨?_, ?_, frozen_of_row _ _ _ _ _ h, frozen_of_row _ _ _ _ _ h⟩ <;> rw [cell_of_row _ _ _ _ _ _ h] <;> rfl
theorem gd_one (d : Dy) (v : Vd) : (gd d v).all (·.oneCell') = true := by simp [gd, Value.oneCell']
theorem zd_one : zD.all (·.oneCell') = true := by simp [zD, Value.oneCell']
theorem ec_one (x : Mb) : (ec x).all (·.oneCell') = true := by simp [ec, Value.oneCell']
theorem info25 (d : Dy) (v : Vd) : (Tryz.prog.info? 25).map (·.size) = some (gd d v).size := by
  have h : (Tryz.prog.info? 25).map (·.size) = some 2 := by kernel_rfl
  exact h
theorem infozD : (Tryz.prog.info? 25).map (·.size) = some zD.size := by
  have h : (Tryz.prog.info? 25).map (·.size) = some 2 := by kernel_rfl
  exact h
theorem info52 (x : Mb) : (Tryz.prog.info? 79).map (·.size) = some (ec x).size := by
  have h : (Tryz.prog.info? 79).map (·.size) = some 4 := by kernel_rfl
  exact h
theorem set2row {W : World} {g : Nat} {p q : Value} {t : TypeId} {old : Array Value} (h : W.heap[g]? = some (.cells old t (0, 0))) (h2 : old.size = 2) :
    (W.setCell ⟨g, 0, none⟩ p).setCell ⟨g, 1, none⟩ q = W.setRow g #[p, q] := by
  have h0 := setRow_heap W g old (old.setIfInBounds 0 p) t (0, 0) h
  rw [setCell_eq_setRow W g 0 old t (0, 0) p h, setCell_eq_setRow _ g 1 _ t (0, 0) q h0, setRow_setRow]
  congr 1
  obtain ⟨l⟩ := old
  match l, h2 with
  | [a, b], _ => rfl

theorem zinfo3 : (Tryz.prog.info? 3).map (fun i => (i.zero, i.size, i.bytes)) = some (some (.int .i64 0), 1, 8) := by kernel_rfl
theorem zinfo52 : (Tryz.prog.info? 79).map (fun i => (i.zero, i.size, i.bytes)) = some (some (.agg #[.int .i64 0, .int .i64 0, .int .i64 0, .int .i64 0]), 4, 32) := by kernel_rfl

end Go.Proofs.YtgknfkmojhganaaGreat.Di
