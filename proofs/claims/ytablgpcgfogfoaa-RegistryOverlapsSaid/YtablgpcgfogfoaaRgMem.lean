import Derived.Test.YtablgpcgfogfoaaRgKit
namespace Go.Proofs.Ytablgpcgfogfoaa.Rg
open Go.RowKit
open Go.Proofs.Ytablgpcgfogfoaa.Tp
set_option linter.unusedVariables false

/-- The names that occur. -/
def Nm (nm : ByteArray) : Prop := nm = ⟨#[97]⟩ ∨ nm = ⟨#[105, 115, 115, 117, 101, 114]⟩

def sv (nm : ByteArray) : List Nat → List Value
  | [] => []
  | x :: l => [.string nm, .int .i64 (x : Int)] ++ sv nm l
theorem sv_len (nm : ByteArray) : ∀ l, (sv nm l).length = l.length * 2
  | [] => rfl
  | x :: l => by
    have := sv_len nm l
    simp [sv, this]
    omega
theorem sv_snoc (nm : ByteArray) : ∀ (l : List Nat) (x : Nat), sv nm (l ++ [x]) = sv nm l ++ [.string nm, .int .i64 (x : Int)]
  | [], x => by simp [sv]
  | y :: l, x => by simp [sv, sv_snoc nm l x]
theorem sv_at (nm : ByteArray) : ∀ (l : List Nat) (i : Nat), i < l.length → (sv nm l)[i * 2]? = some (.string nm) ∧ (sv nm l)[i * 2 + 1]? = some (.int .i64 ((l.getD i 0 : Nat) : Int))
  | [], i, h => absurd h (by simp)
  | x :: l, 0, h => ⟨rfl, rfl⟩
  | x :: l, i + 1, h => by
    have ih := sv_at nm l i (by simpa using h)
    have e1 : (i + 1) * 2 = (i * 2) + 1 + 1 := by omega
    simp only [sv, e1]
    exact ih
theorem sv_one (nm : ByteArray) (l : List Nat) : ∀ u ∈ sv nm l, u.oneCell' = true := by
  induction l with
  | nil => intro u hu; simp [sv] at hu
  | cons x l ih =>
    intro u hu
    rcases List.mem_append.1 hu with h | h
    · simp at h
      rcases h with rfl | rfl <;> rfl
    · exact ih u h

def kc (x : Cr) : Array Value := #[.int .i64 (x.i : Int), .int .u64 (x.p : Int), .int .i64 (x.h : Int), .int .i64 (x.f : Int), .int .i64 (x.u : Int)]
def kv : List Cr → List Value
  | [] => []
  | x :: l => [.int .i64 (x.i : Int), .int .u64 (x.p : Int), .int .i64 (x.h : Int), .int .i64 (x.f : Int), .int .i64 (x.u : Int)] ++ kv l
theorem kv_len : ∀ l, (kv l).length = l.length * 5
  | [] => rfl
  | x :: l => by
    have := kv_len l
    simp [kv, this]
    omega
theorem kv_snoc : ∀ (l : List Cr) (x : Cr), kv (l ++ [x]) = kv l ++ [.int .i64 (x.i : Int), .int .u64 (x.p : Int), .int .i64 (x.h : Int), .int .i64 (x.f : Int), .int .i64 (x.u : Int)]
  | [], x => by simp [kv]
  | y :: l, x => by simp [kv, kv_snoc l x]
theorem kv_at : ∀ (l : List Cr) (i : Nat), i < l.length → (kv l)[i * 5]? = some (.int .i64 (((l.getD i c0).i : Nat) : Int)) ∧ (kv l)[i * 5 + 1]? = some (.int .u64 (((l.getD i c0).p : Nat) : Int)) ∧ (kv l)[i * 5 + 2]? = some (.int .i64 (((l.getD i c0).h : Nat) : Int)) ∧ (kv l)[i * 5 + 3]? = some (.int .i64 (((l.getD i c0).f : Nat) : Int)) ∧ (kv l)[i * 5 + 4]? = some (.int .i64 (((l.getD i c0).u : Nat) : Int))
  | [], i, h => absurd h (by simp)
  | x :: l, 0, h => ⟨rfl, rfl, rfl, rfl, rfl⟩
  | x :: l, i + 1, h => by
    have ih := kv_at l i (by simpa using h)
    have e1 : (i + 1) * 5 = (i * 5) + 1 + 1 + 1 + 1 + 1 := by omega
    simp only [kv, e1]
    exact ih
theorem kv_one (l : List Cr) : ∀ u ∈ kv l, u.oneCell' = true := by
  induction l with
  | nil => intro u hu; simp [kv] at hu
  | cons x l ih =>
    intro u hu
    rcases List.mem_append.1 hu with h | h
    · simp at h
      rcases h with rfl | rfl | rfl | rfl | rfl <;> rfl
    · exact ih u h
theorem kv_set : ∀ (l : List Cr) (k : Nat) (t : Nat), k < l.length → kv (l.set k ⟨(l.getD k c0).i, (l.getD k c0).p, (l.getD k c0).h, (l.getD k c0).f, t⟩) = (kv l).set (k * 5 + 4) (.int .i64 (t : Int))
  | [], k, t, h => absurd h (by simp)
  | y :: l, 0, t, h => rfl
  | y :: l, k + 1, t, h => by
    have ih := kv_set l k t (by simpa using h)
    have e1 : (k + 1) * 5 + 4 = (k * 5 + 4) + 1 + 1 + 1 + 1 + 1 := by omega
    show [_, _, _, _, _] ++ kv (l.set k _) = _
    rw [e1]
    exact congrArg (fun z => [Value.int .i64 (y.i : Int), .int .u64 (y.p : Int), .int .i64 (y.h : Int), .int .i64 (y.f : Int), .int .i64 (y.u : Int)] ++ z) ih

theorem Row.iss {w : World} {B n : Nat} {A : Option Addr} {nm : ByteArray} {l : List Nat} (h : Row w B 2 A n (sv nm l)) {i : Nat} (hi : i < n) : ∃ b off, A = some ⟨b, off, none⟩ ∧ B ≤ b ∧ b < w.heap.size ∧ w.cell? ⟨b, off + i * 2, none⟩ = some (.string nm) ∧ w.cell? ⟨b, off + i * 2 + 1, none⟩ = some (.int .i64 ((l.getD i 0 : Nat) : Int)) := by
  obtain ⟨b, off, e, hB, hlt, hc⟩ := h.mem (by omega)
  have hl := h.len
  rw [sv_len] at hl
  obtain ⟨a1, a2⟩ := sv_at nm l i (by omega)
  exact ⟨b, off, e, hB, hlt, hc _ _ a1, hc _ _ a2⟩
theorem Row.crd {w : World} {B n : Nat} {A : Option Addr} {l : List Cr} (h : Row w B 5 A n (kv l)) {i : Nat} (hi : i < n) : ∃ b off, A = some ⟨b, off, none⟩ ∧ B ≤ b ∧ b < w.heap.size ∧ w.cell? ⟨b, off + i * 5, none⟩ = some (.int .i64 (((l.getD i c0).i : Nat) : Int)) ∧ w.cell? ⟨b, off + i * 5 + 1, none⟩ = some (.int .u64 (((l.getD i c0).p : Nat) : Int)) ∧ w.cell? ⟨b, off + i * 5 + 2, none⟩ = some (.int .i64 (((l.getD i c0).h : Nat) : Int)) ∧ w.cell? ⟨b, off + i * 5 + 3, none⟩ = some (.int .i64 (((l.getD i c0).f : Nat) : Int)) ∧ w.cell? ⟨b, off + i * 5 + 4, none⟩ = some (.int .i64 (((l.getD i c0).u : Nat) : Int)) := by
  obtain ⟨b, off, e, hB, hlt, hc⟩ := h.mem (by omega)
  have hl := h.len
  rw [kv_len] at hl
  obtain ⟨a1, a2, a3, a4, a5⟩ := kv_at l i (by omega)
  exact ⟨b, off, e, hB, hlt, hc _ _ a1, hc _ _ a2, hc _ _ a3, hc _ _ a4, hc _ _ a5⟩

/-- A registry as a value. -/
structure Vr where
  A1 : Option Addr
  c1 : Nat
  A2 : Option Addr
  c2 : Nat
def gv (r : Rg) (v : Vr) : Array Value := #[.slice v.A1 r.s.length v.c1, .slice v.A2 r.c.length v.c2]
structure RL (w : World) (B : Nat) (nm : ByteArray) (r : Rg) (v : Vr) : Prop where
  r1 : Row w B 2 v.A1 r.s.length (sv nm r.s)
  r2 : Row w B 5 v.A2 r.c.length (kv r.c)
theorem RL.below {w w' : World} {B : Nat} {nm : ByteArray} {r : Rg} {v : Vr} (h : RL w B nm r v) (hb : Below w.heap.size w w') : RL w' B nm r v := ⟨h.r1.below hb, h.r2.below hb⟩
theorem RL.base {w : World} {B B' : Nat} {nm : ByteArray} {r : Rg} {v : Vr} (h : RL w B nm r v) (hb : B' ≤ B) : RL w B' nm r v := ⟨h.r1.base hb, h.r2.base hb⟩
theorem RL.grown {w w' : World} {B : Nat} {nm : ByteArray} {r : Rg} {v : Vr} {row : Option Nat} (h : RL w B nm r v) (hg : w.grownBy w' row) (hr : ∀ g, row = some g → g < B) : RL w' B nm r v := ⟨h.r1.grown hg hr, h.r2.grown hg hr⟩
theorem RL.set {w : World} {B g : Nat} {nm : ByteArray} {r : Rg} {v : Vr} (h : RL w B nm r v) (hg : g < B) (cs : Array Value) : RL (w.setRow g cs) B nm r v := ⟨h.r1.set hg cs, h.r2.set hg cs⟩
theorem RL.drew {w : World} {B : Nat} {nm : ByteArray} {r : Rg} {v : Vr} (h : RL w B nm r v) : RL w.drew B nm r v := ⟨h.r1.drew, h.r2.drew⟩

theorem gvCells {w : World} {r : Rg} {v : Vr} {t : TypeId} {o : Nat × Nat} {g : Nat} (h : w.heap[g]? = some (.cells (gv r v) t o)) :
    w.cell? ⟨g, 0, none⟩ = some (.slice v.A1 r.s.length v.c1) ∧ w.cell? ⟨g, 1, none⟩ = some (.slice v.A2 r.c.length v.c2) := by
  refine ⟨?_, ?_⟩ <;> rw [cell_of_row _ _ _ _ _ _ h] <;> rfl
theorem kcCells {w : World} {x : Cr} {t : TypeId} {o : Nat × Nat} {g : Nat} (h : w.heap[g]? = some (.cells (kc x) t o)) :
    w.cell? ⟨g, 0, none⟩ = some (.int .i64 (x.i : Int)) ∧ w.cell? ⟨g, 1, none⟩ = some (.int .u64 (x.p : Int)) ∧ w.cell? ⟨g, 2, none⟩ = some (.int .i64 (x.h : Int)) ∧ w.cell? ⟨g, 3, none⟩ = some (.int .i64 (x.f : Int)) ∧ w.cell? ⟨g, 4, none⟩ = some (.int .i64 (x.u : Int)) := by
  refine ⟨?_, ?_, ?_, ?_, ?_⟩ <;> rw [cell_of_row _ _ _ _ _ _ h] <;> rfl
def zG : Array Value := #[.slice none 0 0, .slice none 0 0]
theorem zgCells {w : World} {g : Nat} (h : w.heap[g]? = some (.cells zG 26 (0, 0))) : w.cell? ⟨g, 0, none⟩ = some (.slice none 0 0) ∧ w.cell? ⟨g, 1, none⟩ = some (.slice none 0 0) ∧ w.frozen? ⟨g, 0, none⟩ = false ∧ w.frozen? ⟨g, 1, none⟩ = false := by
  refine ⟨?_, ?_, frozen_of_row _ _ _ _ _ h, frozen_of_row _ _ _ _ _ h⟩ <;> rw [cell_of_row _ _ _ _ _ _ h] <;> rfl
theorem gv_one (r : Rg) (v : Vr) : (gv r v).all (·.oneCell') = true := by simp [gv, Value.oneCell']
theorem zg_one : zG.all (·.oneCell') = true := by simp [zG, Value.oneCell']
theorem info26 (r : Rg) (v : Vr) : (Try.prog.info? 26).map (·.size) = some (gv r v).size := by
  have h : (Try.prog.info? 26).map (·.size) = some 2 := by kernel_rfl
  exact h
theorem infozG : (Try.prog.info? 26).map (·.size) = some zG.size := by
  have h : (Try.prog.info? 26).map (·.size) = some 2 := by kernel_rfl
  exact h
theorem set2row {W : World} {g : Nat} {p q : Value} {t : TypeId} {old : Array Value} (h : W.heap[g]? = some (.cells old t (0, 0))) (h2 : old.size = 2) :
    (W.setCell ⟨g, 0, none⟩ p).setCell ⟨g, 1, none⟩ q = W.setRow g #[p, q] := by
  have h0 := setRow_heap W g old (old.setIfInBounds 0 p) t (0, 0) h
  rw [setCell_eq_setRow W g 0 old t (0, 0) p h, setCell_eq_setRow _ g 1 _ t (0, 0) q h0, setRow_setRow]
  congr 1
  obtain ⟨l⟩ := old
  match l, h2 with
  | [a, b], _ => rfl

theorem zinfo3 : (Try.prog.info? 3).map (fun i => (i.zero, i.size, i.bytes)) = some (some (.int .i64 0), 1, 8) := by kernel_rfl
theorem zinfo29 : (Try.prog.info? 29).map (fun i => (i.zero, i.size, i.bytes)) = some (some (.agg #[.int .i64 0, .int .u64 0, .int .i64 0, .int .i64 0, .int .i64 0]), 5, 40) := by kernel_rfl
theorem zinfo60 : (Try.prog.info? 60).map (fun i => (i.zero, i.size, i.bytes)) = some (some (.agg #[.string ⟨#[]⟩, .int .i64 0]), 2, 24) := by kernel_rfl

end Go.Proofs.Ytablgpcgfogfoaa.Rg
