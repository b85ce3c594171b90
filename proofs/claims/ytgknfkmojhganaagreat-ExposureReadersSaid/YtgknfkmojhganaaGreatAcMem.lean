import Derived.Test.YtgknfkmojhganaaGreatDiMem
import Derived.Test.YtgknfkmojhganaaGreatAcMath
namespace Go.Proofs.YtgknfkmojhganaaGreat.Di
open Go.RowKit
open Go.Proofs.YtgknfkmojhganaaGreat.Tp
set_option linter.unusedVariables false

/-- An event, as cells. -/
def acc (x : Ac) : Array Value := #[.int .i64 x.t, .int .i64 x.k, .int .i64 x.p, .int .i64 x.r, .int .i64 x.u, .int .i64 x.c, .int .i64 x.f]
def av : List Ac → List Value
  | [] => []
  | x :: l => [.int .i64 x.t, .int .i64 x.k, .int .i64 x.p, .int .i64 x.r, .int .i64 x.u, .int .i64 x.c, .int .i64 x.f] ++ av l
theorem av_len : ∀ l, (av l).length = l.length * 7
  | [] => rfl
  | x :: l => by
    have := av_len l
    simp [av, this]
    omega
theorem av_snoc : ∀ (l : List Ac) (x : Ac), av (l ++ [x]) = av l ++ [.int .i64 x.t, .int .i64 x.k, .int .i64 x.p, .int .i64 x.r, .int .i64 x.u, .int .i64 x.c, .int .i64 x.f]
  | [], x => by simp [av]
  | y :: l, x => by simp [av, av_snoc l x]
theorem av_at : ∀ (l : List Ac) (i : Nat), i < l.length → (av l)[i * 7]? = some (.int .i64 (ag l i).t) ∧ (av l)[i * 7 + 1]? = some (.int .i64 (ag l i).k) ∧ (av l)[i * 7 + 2]? = some (.int .i64 (ag l i).p) ∧ (av l)[i * 7 + 3]? = some (.int .i64 (ag l i).r) ∧ (av l)[i * 7 + 4]? = some (.int .i64 (ag l i).u) ∧ (av l)[i * 7 + 5]? = some (.int .i64 (ag l i).c) ∧ (av l)[i * 7 + 6]? = some (.int .i64 (ag l i).f)
  | [], i, h => absurd h (by simp)
  | x :: l, 0, h => ⟨rfl, rfl, rfl, rfl, rfl, rfl, rfl⟩
  | x :: l, i + 1, h => by
    have ih := av_at l i (by simpa using h)
    have e1 : (i + 1) * 7 = (i * 7) + 1 + 1 + 1 + 1 + 1 + 1 + 1 := by omega
    simp only [av, e1]
    exact ih
theorem av_one (l : List Ac) : ∀ u ∈ av l, u.oneCell' = true := by
  induction l with
  | nil => intro u hu; simp [av] at hu
  | cons x l ih =>
    intro u hu
    rcases List.mem_append.1 hu with h | h
    · simp at h
      rcases h with rfl | rfl | rfl | rfl | rfl | rfl | rfl <;> rfl
    · exact ih u h
/-- The seven cells of an event, from a place on. -/
def AcAt (w : World) (b o : Nat) (x : Ac) : Prop := w.cell? ⟨b, o, none⟩ = some (.int .i64 x.t) ∧ w.cell? ⟨b, o + 1, none⟩ = some (.int .i64 x.k) ∧ w.cell? ⟨b, o + 2, none⟩ = some (.int .i64 x.p) ∧ w.cell? ⟨b, o + 3, none⟩ = some (.int .i64 x.r) ∧ w.cell? ⟨b, o + 4, none⟩ = some (.int .i64 x.u) ∧ w.cell? ⟨b, o + 5, none⟩ = some (.int .i64 x.c) ∧ w.cell? ⟨b, o + 6, none⟩ = some (.int .i64 x.f)
theorem Row.ac {w : World} {B n : Nat} {A : Option Addr} {l : List Ac} (h : Row w B 7 A n (av l)) {i : Nat} (hi : i < n) : ∃ b off, A = some ⟨b, off, none⟩ ∧ B ≤ b ∧ b < w.heap.size ∧ AcAt w b (off + i * 7) (ag l i) := by
  obtain ⟨b, off, e, hB, hlt, hc⟩ := h.mem (by omega)
  have hl := h.len
  rw [av_len] at hl
  obtain ⟨a1, a2, a3, a4, a5, a6, a7⟩ := av_at l i (by omega)
  exact ⟨b, off, e, hB, hlt, hc _ _ a1, hc _ _ a2, hc _ _ a3, hc _ _ a4, hc _ _ a5, hc _ _ a6, hc _ _ a7⟩
theorem AcAt.below {w w' : World} {b o : Nat} {x : Ac} (h : AcAt w b o x) (hb : Below w.heap.size w w') (hlt : b < w.heap.size) : AcAt w' b o x :=
  ⟨(hb.cell (p := ⟨b, o, none⟩) hlt).trans h.1, (hb.cell (p := ⟨b, o + 1, none⟩) hlt).trans h.2.1, (hb.cell (p := ⟨b, o + 2, none⟩) hlt).trans h.2.2.1, (hb.cell (p := ⟨b, o + 3, none⟩) hlt).trans h.2.2.2.1, (hb.cell (p := ⟨b, o + 4, none⟩) hlt).trans h.2.2.2.2.1, (hb.cell (p := ⟨b, o + 5, none⟩) hlt).trans h.2.2.2.2.2.1, (hb.cell (p := ⟨b, o + 6, none⟩) hlt).trans h.2.2.2.2.2.2⟩
theorem accCells {w : World} {x : Ac} {t : TypeId} {o : Nat × Nat} {g : Nat} (h : w.heap[g]? = some (.cells (acc x) t o)) : AcAt w g 0 x := by
  refine ⟨?_, ?_, ?_, ?_, ?_, ?_, ?_⟩ <;> rw [cell_of_row _ _ _ _ _ _ h] <;> rfl
/-- An estate as a value. -/
structure Ve where
  A : Option Addr
  c : Nat
def ge (a : Es) (v : Ve) : Array Value := #[.int .i64 a.n, .slice v.A a.e.length v.c]
def EL (w : World) (B : Nat) (a : Es) (v : Ve) : Prop := Row w B 7 v.A a.e.length (av a.e)
theorem geCells {w : World} {a : Es} {v : Ve} {t : TypeId} {o : Nat × Nat} {g : Nat} (h : w.heap[g]? = some (.cells (ge a v) t o)) :
    w.cell? ⟨g, 0, none⟩ = some (.int .i64 a.n) ∧ w.cell? ⟨g, 1, none⟩ = some (.slice v.A a.e.length v.c) := by
  refine ⟨?_, ?_⟩ <;> rw [cell_of_row _ _ _ _ _ _ h] <;> rfl
theorem ge_one (a : Es) (v : Ve) : (ge a v).all (·.oneCell') = true := by simp [ge, Value.oneCell']
theorem acc_one (x : Ac) : (acc x).all (·.oneCell') = true := by simp [acc, Value.oneCell']
theorem infoEs (a : Es) (v : Ve) : (Tryz.prog.info? 28).map (·.size) = some (ge a v).size := by
  have h : (Tryz.prog.info? 28).map (·.size) = some 2 := by kernel_rfl
  exact h
theorem infoAc (x : Ac) : (Tryz.prog.info? 76).map (·.size) = some (acc x).size := by
  have h : (Tryz.prog.info? 76).map (·.size) = some 7 := by kernel_rfl
  exact h
theorem zinfoAc : (Tryz.prog.info? 76).map (fun i => (i.zero, i.size, i.bytes)) = some (some (.agg #[.int .i64 0, .int .i64 0, .int .i64 0, .int .i64 0, .int .i64 0, .int .i64 0, .int .i64 0]), 7, 56) := by kernel_rfl

end Go.Proofs.YtgknfkmojhganaaGreat.Di
