import Derived.Test.YtahggnlmabdbbaaDoorDiKit
import Derived.Test.YtahggnlmabdbbaaDoorRtMath
namespace Go.Proofs.YtahggnlmabdbbaaDoor.Di
open Go.RowKit
open Go.Proofs.YtahggnlmabdbbaaDoor.Tp
set_option linter.unusedVariables false

/-- Numbers as cells. -/
def zv (l : List Int) : List Value := l.map (Value.int .i64)
theorem zv_len (l : List Int) : (zv l).length = l.length * 1 := by simp [zv]
theorem zv_at (l : List Int) (i : Nat) (h : i < l.length) : (zv l)[i]? = some (.int .i64 (e0 l i)) := by
  simp [zv, e0, List.getD_eq_getElem?_getD, h]
theorem zv_one (l : List Int) : ∀ u ∈ zv l, u.oneCell' = true := by
  intro u hu
  obtain ⟨x, _, rfl⟩ := List.mem_map.1 hu
  rfl
theorem zv_snoc (l : List Int) (x : Int) : zv (l ++ [x]) = zv l ++ [.int .i64 x] := by simp [zv]
theorem Row.z {w : World} {B n : Nat} {A : Option Addr} {l : List Int} (h : Row w B 1 A n (zv l)) {i : Nat} (hi : i < n) : ∃ b off, A = some ⟨b, off, none⟩ ∧ B ≤ b ∧ b < w.heap.size ∧ w.cell? ⟨b, off + i, none⟩ = some (.int .i64 (e0 l i)) := by
  obtain ⟨b, off, e, hB, hlt, hc⟩ := h.mem (by omega)
  have hl := h.len
  rw [zv_len] at hl
  exact ⟨b, off, e, hB, hlt, hc i _ (zv_at l i (by omega))⟩
def c2 (x : T2) : Array Value := #[.int .i64 x.a, .int .i64 x.b]
def v2 : List T2 → List Value
  | [] => []
  | x :: l => [.int .i64 x.a, .int .i64 x.b] ++ v2 l
theorem v2_len : ∀ l, (v2 l).length = l.length * 2
  | [] => rfl
  | x :: l => by have := v2_len l; simp [v2, this]; omega
theorem v2_snoc : ∀ (l : List T2) (x : T2), v2 (l ++ [x]) = v2 l ++ [.int .i64 x.a, .int .i64 x.b]
  | [], x => by simp [v2]
  | y :: l, x => by simp [v2, v2_snoc l x]
theorem v2_at : ∀ (l : List T2) (i : Nat), i < l.length → (v2 l)[i * 2]? = some (.int .i64 (e2 l i).a) ∧ (v2 l)[i * 2 + 1]? = some (.int .i64 (e2 l i).b)
  | [], i, h => absurd h (by simp)
  | x :: l, 0, h => ⟨rfl, rfl⟩
  | x :: l, i + 1, h => by
    have ih := v2_at l i (by simpa using h)
    have e1 : (i + 1) * 2 = (i * 2) + 1 + 1 := by omega
    simp only [v2, e1]
    exact ih
theorem v2_one (l : List T2) : ∀ u ∈ v2 l, u.oneCell' = true := by
  induction l with
  | nil => intro u hu; simp [v2] at hu
  | cons x l ih =>
    intro u hu
    rcases List.mem_append.1 hu with h | h
    · simp at h
      rcases h with rfl | rfl <;> rfl
    · exact ih u h
def At2 (w : World) (b o : Nat) (x : T2) : Prop := w.cell? ⟨b, o, none⟩ = some (.int .i64 x.a) ∧ w.cell? ⟨b, o + 1, none⟩ = some (.int .i64 x.b)
theorem Row.t2 {w : World} {B n : Nat} {A : Option Addr} {l : List T2} (h : Row w B 2 A n (v2 l)) {i : Nat} (hi : i < n) : ∃ b off, A = some ⟨b, off, none⟩ ∧ B ≤ b ∧ b < w.heap.size ∧ At2 w b (off + i * 2) (e2 l i) := by
  obtain ⟨b, off, e, hB, hlt, hc⟩ := h.mem (by omega)
  have hl := h.len
  rw [v2_len] at hl
  obtain ⟨a1, a2⟩ := v2_at l i (by omega)
  exact ⟨b, off, e, hB, hlt, hc _ _ a1, hc _ _ a2⟩
theorem c2Cells {w : World} {x : T2} {t : TypeId} {o : Nat × Nat} {g : Nat} (h : w.heap[g]? = some (.cells (c2 x) t o)) : At2 w g 0 x := by
  refine ⟨?_, ?_⟩ <;> rw [cell_of_row _ _ _ _ _ _ h] <;> rfl
def c3 (x : T3) : Array Value := #[.int .i64 x.a, .int .i64 x.b, .int .i64 x.c]
def v3 : List T3 → List Value
  | [] => []
  | x :: l => [.int .i64 x.a, .int .i64 x.b, .int .i64 x.c] ++ v3 l
theorem v3_len : ∀ l, (v3 l).length = l.length * 3
  | [] => rfl
  | x :: l => by have := v3_len l; simp [v3, this]; omega
theorem v3_snoc : ∀ (l : List T3) (x : T3), v3 (l ++ [x]) = v3 l ++ [.int .i64 x.a, .int .i64 x.b, .int .i64 x.c]
  | [], x => by simp [v3]
  | y :: l, x => by simp [v3, v3_snoc l x]
theorem v3_at : ∀ (l : List T3) (i : Nat), i < l.length → (v3 l)[i * 3]? = some (.int .i64 (e3 l i).a) ∧ (v3 l)[i * 3 + 1]? = some (.int .i64 (e3 l i).b) ∧ (v3 l)[i * 3 + 2]? = some (.int .i64 (e3 l i).c)
  | [], i, h => absurd h (by simp)
  | x :: l, 0, h => ⟨rfl, rfl, rfl⟩
  | x :: l, i + 1, h => by
    have ih := v3_at l i (by simpa using h)
    have e1 : (i + 1) * 3 = (i * 3) + 1 + 1 + 1 := by omega
    simp only [v3, e1]
    exact ih
theorem v3_one (l : List T3) : ∀ u ∈ v3 l, u.oneCell' = true := by
  induction l with
  | nil => intro u hu; simp [v3] at hu
  | cons x l ih =>
    intro u hu
    rcases List.mem_append.1 hu with h | h
    · simp at h
      rcases h with rfl | rfl | rfl <;> rfl
    · exact ih u h
def At3 (w : World) (b o : Nat) (x : T3) : Prop := w.cell? ⟨b, o, none⟩ = some (.int .i64 x.a) ∧ w.cell? ⟨b, o + 1, none⟩ = some (.int .i64 x.b) ∧ w.cell? ⟨b, o + 2, none⟩ = some (.int .i64 x.c)
theorem Row.t3 {w : World} {B n : Nat} {A : Option Addr} {l : List T3} (h : Row w B 3 A n (v3 l)) {i : Nat} (hi : i < n) : ∃ b off, A = some ⟨b, off, none⟩ ∧ B ≤ b ∧ b < w.heap.size ∧ At3 w b (off + i * 3) (e3 l i) := by
  obtain ⟨b, off, e, hB, hlt, hc⟩ := h.mem (by omega)
  have hl := h.len
  rw [v3_len] at hl
  obtain ⟨a1, a2, a3⟩ := v3_at l i (by omega)
  exact ⟨b, off, e, hB, hlt, hc _ _ a1, hc _ _ a2, hc _ _ a3⟩
theorem c3Cells {w : World} {x : T3} {t : TypeId} {o : Nat × Nat} {g : Nat} (h : w.heap[g]? = some (.cells (c3 x) t o)) : At3 w g 0 x := by
  refine ⟨?_, ?_, ?_⟩ <;> rw [cell_of_row _ _ _ _ _ _ h] <;> rfl
def c4 (x : T4) : Array Value := #[.int .i64 x.a, .int .i64 x.b, .int .i64 x.c, .int .i64 x.d]
def v4 : List T4 → List Value
  | [] => []
  | x :: l => [.int .i64 x.a, .int .i64 x.b, .int .i64 x.c, .int .i64 x.d] ++ v4 l
theorem v4_len : ∀ l, (v4 l).length = l.length * 4
  | [] => rfl
  | x :: l => by have := v4_len l; simp [v4, this]; omega
theorem v4_snoc : ∀ (l : List T4) (x : T4), v4 (l ++ [x]) = v4 l ++ [.int .i64 x.a, .int .i64 x.b, .int .i64 x.c, .int .i64 x.d]
  | [], x => by simp [v4]
  | y :: l, x => by simp [v4, v4_snoc l x]
theorem v4_at : ∀ (l : List T4) (i : Nat), i < l.length → (v4 l)[i * 4]? = some (.int .i64 (e4 l i).a) ∧ (v4 l)[i * 4 + 1]? = some (.int .i64 (e4 l i).b) ∧ (v4 l)[i * 4 + 2]? = some (.int .i64 (e4 l i).c) ∧ (v4 l)[i * 4 + 3]? = some (.int .i64 (e4 l i).d)
  | [], i, h => absurd h (by simp)
  | x :: l, 0, h => ⟨rfl, rfl, rfl, rfl⟩
  | x :: l, i + 1, h => by
    have ih := v4_at l i (by simpa using h)
    have e1 : (i + 1) * 4 = (i * 4) + 1 + 1 + 1 + 1 := by omega
    simp only [v4, e1]
    exact ih
theorem v4_one (l : List T4) : ∀ u ∈ v4 l, u.oneCell' = true := by
  induction l with
  | nil => intro u hu; simp [v4] at hu
  | cons x l ih =>
    intro u hu
    rcases List.mem_append.1 hu with h | h
    · simp at h
      rcases h with rfl | rfl | rfl | rfl <;> rfl
    · exact ih u h
def At4 (w : World) (b o : Nat) (x : T4) : Prop := w.cell? ⟨b, o, none⟩ = some (.int .i64 x.a) ∧ w.cell? ⟨b, o + 1, none⟩ = some (.int .i64 x.b) ∧ w.cell? ⟨b, o + 2, none⟩ = some (.int .i64 x.c) ∧ w.cell? ⟨b, o + 3, none⟩ = some (.int .i64 x.d)
theorem Row.t4 {w : World} {B n : Nat} {A : Option Addr} {l : List T4} (h : Row w B 4 A n (v4 l)) {i : Nat} (hi : i < n) : ∃ b off, A = some ⟨b, off, none⟩ ∧ B ≤ b ∧ b < w.heap.size ∧ At4 w b (off + i * 4) (e4 l i) := by
  obtain ⟨b, off, e, hB, hlt, hc⟩ := h.mem (by omega)
  have hl := h.len
  rw [v4_len] at hl
  obtain ⟨a1, a2, a3, a4⟩ := v4_at l i (by omega)
  exact ⟨b, off, e, hB, hlt, hc _ _ a1, hc _ _ a2, hc _ _ a3, hc _ _ a4⟩
theorem c4Cells {w : World} {x : T4} {t : TypeId} {o : Nat × Nat} {g : Nat} (h : w.heap[g]? = some (.cells (c4 x) t o)) : At4 w g 0 x := by
  refine ⟨?_, ?_, ?_, ?_⟩ <;> rw [cell_of_row _ _ _ _ _ _ h] <;> rfl
def c5 (x : T5) : Array Value := #[.int .i64 x.l.a, .int .i64 x.l.b, .int .i64 x.l.c, .int .i64 x.l.d, .int .i64 x.t]
def v5 : List T5 → List Value
  | [] => []
  | x :: l => [.int .i64 x.l.a, .int .i64 x.l.b, .int .i64 x.l.c, .int .i64 x.l.d, .int .i64 x.t] ++ v5 l
theorem v5_len : ∀ l, (v5 l).length = l.length * 5
  | [] => rfl
  | x :: l => by have := v5_len l; simp [v5, this]; omega
theorem v5_snoc : ∀ (l : List T5) (x : T5), v5 (l ++ [x]) = v5 l ++ [.int .i64 x.l.a, .int .i64 x.l.b, .int .i64 x.l.c, .int .i64 x.l.d, .int .i64 x.t]
  | [], x => by simp [v5]
  | y :: l, x => by simp [v5, v5_snoc l x]
theorem v5_at : ∀ (l : List T5) (i : Nat), i < l.length → (v5 l)[i * 5]? = some (.int .i64 (e5 l i).l.a) ∧ (v5 l)[i * 5 + 1]? = some (.int .i64 (e5 l i).l.b) ∧ (v5 l)[i * 5 + 2]? = some (.int .i64 (e5 l i).l.c) ∧ (v5 l)[i * 5 + 3]? = some (.int .i64 (e5 l i).l.d) ∧ (v5 l)[i * 5 + 4]? = some (.int .i64 (e5 l i).t)
  | [], i, h => absurd h (by simp)
  | x :: l, 0, h => ⟨rfl, rfl, rfl, rfl, rfl⟩
  | x :: l, i + 1, h => by
    have ih := v5_at l i (by simpa using h)
    have e1 : (i + 1) * 5 = (i * 5) + 1 + 1 + 1 + 1 + 1 := by omega
    simp only [v5, e1]
    exact ih
theorem v5_one (l : List T5) : ∀ u ∈ v5 l, u.oneCell' = true := by
  induction l with
  | nil => intro u hu; simp [v5] at hu
  | cons x l ih =>
    intro u hu
    rcases List.mem_append.1 hu with h | h
    · simp at h
      rcases h with rfl | rfl | rfl | rfl | rfl <;> rfl
    · exact ih u h
def At5 (w : World) (b o : Nat) (x : T5) : Prop := w.cell? ⟨b, o, none⟩ = some (.int .i64 x.l.a) ∧ w.cell? ⟨b, o + 1, none⟩ = some (.int .i64 x.l.b) ∧ w.cell? ⟨b, o + 2, none⟩ = some (.int .i64 x.l.c) ∧ w.cell? ⟨b, o + 3, none⟩ = some (.int .i64 x.l.d) ∧ w.cell? ⟨b, o + 4, none⟩ = some (.int .i64 x.t)
theorem Row.t5 {w : World} {B n : Nat} {A : Option Addr} {l : List T5} (h : Row w B 5 A n (v5 l)) {i : Nat} (hi : i < n) : ∃ b off, A = some ⟨b, off, none⟩ ∧ B ≤ b ∧ b < w.heap.size ∧ At5 w b (off + i * 5) (e5 l i) := by
  obtain ⟨b, off, e, hB, hlt, hc⟩ := h.mem (by omega)
  have hl := h.len
  rw [v5_len] at hl
  obtain ⟨a1, a2, a3, a4, a5⟩ := v5_at l i (by omega)
  exact ⟨b, off, e, hB, hlt, hc _ _ a1, hc _ _ a2, hc _ _ a3, hc _ _ a4, hc _ _ a5⟩
theorem c5Cells {w : World} {x : T5} {t : TypeId} {o : Nat × Nat} {g : Nat} (h : w.heap[g]? = some (.cells (c5 x) t o)) : At5 w g 0 x := by
  refine ⟨?_, ?_, ?_, ?_, ?_⟩ <;> rw [cell_of_row _ _ _ _ _ _ h] <;> rfl

/-- Rights as a value. -/
structure Vr where
  A1 : Option Addr
  c1 : Nat
  A2 : Option Addr
  c2 : Nat
  A3 : Option Addr
  c3 : Nat
def gr (x : Rt) (v : Vr) : Array Value := #[.int .i64 x.c, .int .i64 x.k, .slice v.A1 x.g.length v.c1, .slice v.A2 x.s.length v.c2, .slice v.A3 x.m.length v.c3]
structure RL (w : World) (B : Nat) (x : Rt) (v : Vr) : Prop where
  r1 : Row w B 3 v.A1 x.g.length (v3 x.g)
  r2 : Row w B 2 v.A2 x.s.length (v2 x.s)
  r3 : Row w B 2 v.A3 x.m.length (v2 x.m)
theorem RL.below {w w' : World} {B : Nat} {x : Rt} {v : Vr} (h : RL w B x v) (hb : Below w.heap.size w w') : RL w' B x v := ⟨h.r1.below hb, h.r2.below hb, h.r3.below hb⟩
theorem RL.base {w : World} {B B' : Nat} {x : Rt} {v : Vr} (h : RL w B x v) (hb : B' ≤ B) : RL w B' x v := ⟨h.r1.base hb, h.r2.base hb, h.r3.base hb⟩
theorem RL.grown {w w' : World} {B : Nat} {x : Rt} {v : Vr} {row : Option Nat} (h : RL w B x v) (hg : w.grownBy w' row) (hr : ∀ g, row = some g → g < B) : RL w' B x v := ⟨h.r1.grown hg hr, h.r2.grown hg hr, h.r3.grown hg hr⟩
theorem RL.set {w : World} {B g : Nat} {x : Rt} {v : Vr} (h : RL w B x v) (hg : g < B) (cs : Array Value) : RL (w.setRow g cs) B x v := ⟨h.r1.set hg cs, h.r2.set hg cs, h.r3.set hg cs⟩
theorem RL.drew {w : World} {B : Nat} {x : Rt} {v : Vr} (h : RL w B x v) : RL w.drew B x v := ⟨h.r1.drew, h.r2.drew, h.r3.drew⟩
/-- The five cells of rights. -/
def AtR (w : World) (g : Nat) (x : Rt) (v : Vr) : Prop := w.cell? ⟨g, 0, none⟩ = some (.int .i64 x.c) ∧ w.cell? ⟨g, 1, none⟩ = some (.int .i64 x.k) ∧ w.cell? ⟨g, 2, none⟩ = some (.slice v.A1 x.g.length v.c1) ∧ w.cell? ⟨g, 3, none⟩ = some (.slice v.A2 x.s.length v.c2) ∧ w.cell? ⟨g, 4, none⟩ = some (.slice v.A3 x.m.length v.c3)
theorem grCells {w : World} {x : Rt} {v : Vr} {t : TypeId} {o : Nat × Nat} {g : Nat} (h : w.heap[g]? = some (.cells (gr x v) t o)) : AtR w g x v := by
  refine ⟨?_, ?_, ?_, ?_, ?_⟩ <;> rw [cell_of_row _ _ _ _ _ _ h] <;> rfl
theorem gr_one (x : Rt) (v : Vr) : (gr x v).all (·.oneCell') = true := by simp [gr, Value.oneCell']
theorem c2_one (x : T2) : (c2 x).all (·.oneCell') = true := by simp [c2, Value.oneCell']
theorem c3_one (x : T3) : (c3 x).all (·.oneCell') = true := by simp [c3, Value.oneCell']
theorem c4_one (x : T4) : (c4 x).all (·.oneCell') = true := by simp [c4, Value.oneCell']
theorem c5_one (x : T5) : (c5 x).all (·.oneCell') = true := by simp [c5, Value.oneCell']
theorem infoR (x : Rt) (v : Vr) : (Tryd.prog.info? 27).map (·.size) = some (gr x v).size := by
  have h : (Tryd.prog.info? 27).map (·.size) = some 5 := by kernel_rfl
  exact h
theorem infoG (x : T3) : (Tryd.prog.info? 54).map (·.size) = some (c3 x).size := by
  have h : (Tryd.prog.info? 54).map (·.size) = some 3 := by kernel_rfl
  exact h
theorem infoS (x : T2) : (Tryd.prog.info? 60).map (·.size) = some (c2 x).size := by
  have h : (Tryd.prog.info? 60).map (·.size) = some 2 := by kernel_rfl
  exact h
theorem infoM (x : T2) : (Tryd.prog.info? 62).map (·.size) = some (c2 x).size := by
  have h : (Tryd.prog.info? 62).map (·.size) = some 2 := by kernel_rfl
  exact h
theorem infoL (x : T4) : (Tryd.prog.info? 99).map (·.size) = some (c4 x).size := by
  have h : (Tryd.prog.info? 99).map (·.size) = some 4 := by kernel_rfl
  exact h
theorem infoT (x : T5) : (Tryd.prog.info? 101).map (·.size) = some (c5 x).size := by
  have h : (Tryd.prog.info? 101).map (·.size) = some 5 := by kernel_rfl
  exact h
theorem zinfo3 : (Tryd.prog.info? 3).map (fun i => (i.zero, i.size, i.bytes)) = some (some (.int .i64 0), 1, 8) := by kernel_rfl
theorem zinfoG : (Tryd.prog.info? 54).map (fun i => (i.zero, i.size, i.bytes)) = some (some (.agg #[.int .i64 0, .int .i64 0, .int .i64 0]), 3, 24) := by kernel_rfl
theorem zinfoS : (Tryd.prog.info? 60).map (fun i => (i.zero, i.size, i.bytes)) = some (some (.agg #[.int .i64 0, .int .i64 0]), 2, 16) := by kernel_rfl
theorem zinfoM : (Tryd.prog.info? 62).map (fun i => (i.zero, i.size, i.bytes)) = some (some (.agg #[.int .i64 0, .int .i64 0]), 2, 16) := by kernel_rfl
theorem zinfoL : (Tryd.prog.info? 99).map (fun i => (i.zero, i.size, i.bytes)) = some (some (.agg #[.int .i64 0, .int .i64 0, .int .i64 0, .int .i64 0]), 4, 32) := by kernel_rfl

end Go.Proofs.YtahggnlmabdbbaaDoor.Di
