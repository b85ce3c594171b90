import Derived.Test.YtamcjhibdcbdnaaTape
import Derived.Test.YtamcjhibdcbdnaaCMath
import Derived.Laws.AppendOwnNone
import Derived.Maps.AppendAt
import Derived.Deep.AppendLies
import Derived.OwnWalk
import Derived.Below
namespace Go.Proofs.Ytamcjhibdcbdnaa.Cl
open Go.RowKit
open Go.Proofs.Ytamcjhibdcbdnaa.Tp
set_option linter.unusedVariables false

theorem row_lt {w : World} {g : Nat} {o : Obj} (h : w.heap[g]? = some o) : g < w.heap.size := (Array.getElem?_eq_some_iff.1 h).1
theorem box_below (w : World) (o : Obj) : Below w.heap.size w (w.alloc o) := (Below.refl _ _).alloc (Nat.le_refl _) _

/-- Cells as they lie in memory, s of them to an element, not below block B. -/
structure Row (w : World) (B s : Nat) (A : Option Addr) (n : Nat) (xs : List Value) : Prop where
  len : xs.length = n * s
  mem : 0 < n → ∃ b off, A = some ⟨b, off, none⟩ ∧ B ≤ b ∧ b < w.heap.size ∧ ∀ j u, xs[j]? = some u → w.cell? ⟨b, off + j, none⟩ = some u

theorem Row.below {w w' : World} {B s n : Nat} {A : Option Addr} {xs : List Value} (h : Row w B s A n xs) (hb : Below w.heap.size w w') : Row w' B s A n xs :=
  ⟨h.len, fun hn => by
    obtain ⟨b, off, e, hB, hlt, hc⟩ := h.mem hn
    exact ⟨b, off, e, hB, Nat.lt_of_lt_of_le hlt hb.size, fun j u hj => (hb.cell (p := ⟨b, off + j, none⟩) hlt).trans (hc j u hj)⟩⟩

theorem Row.base {w : World} {B B' s n : Nat} {A : Option Addr} {xs : List Value} (h : Row w B s A n xs) (hb : B' ≤ B) : Row w B' s A n xs :=
  ⟨h.len, fun hn => by
    obtain ⟨b, off, e, hB, hlt, hc⟩ := h.mem hn
    exact ⟨b, off, e, Nat.le_trans hb hB, hlt, hc⟩⟩

theorem Row.grown {w w' : World} {B s n : Nat} {A : Option Addr} {xs : List Value} {row : Option Nat} (h : Row w B s A n xs) (hg : w.grownBy w' row) (hr : ∀ g, row = some g → g < B) : Row w' B s A n xs :=
  ⟨h.len, fun hn => by
    obtain ⟨b, off, e, hB, hlt, hc⟩ := h.mem hn
    refine ⟨b, off, e, hB, Nat.lt_of_lt_of_le hlt hg.size, fun j u hj => ?_⟩
    exact (World.cell?_of_block (w := w) (a := ⟨b, off + j, none⟩) (hg.block b hlt (fun e => by have := hr b e.symm; omega))).trans (hc j u hj)⟩

theorem own_row {w : World} {base e s n : Nat} {v : Value} {xs : List Value} (h : w.ownsRow base e s v n xs) (hl : xs.length = n * s) : ∃ A c, v = .slice A n c ∧ Row w base s A n xs := by
  have h' := h
  rcases h.2 with ⟨rfl, e⟩ | ⟨g, cap, cur, rfl, hg, hh, hnc, hcm, _⟩
  · exact ⟨none, 0, by rw [e], hl, fun h0 => absurd h0 (by omega)⟩
  · refine ⟨_, _, rfl, hl, fun h0 => ⟨g, 0, rfl, hg, row_lt hh, fun j u hj => ?_⟩⟩
    rw [Nat.zero_add, h'.cellAt j (by have := (List.getElem?_eq_some_iff.1 hj).1; omega)]
    exact hj

/-- Numbers and replicas as cells. -/
def iv (l : List Nat) : List Value := l.map fun x : Nat => Value.int .i64 (x : Int)
def rv : List (Nat × Bool) → List Value
  | [] => []
  | x :: l => [.int .i64 (x.1 : Int), .bool x.2] ++ rv l

theorem iv_len (l : List Nat) : (iv l).length = l.length * 1 := by simp [iv]
theorem iv_at (l : List Nat) (i : Nat) (h : i < l.length) : (iv l)[i]? = some (.int .i64 ((l.getD i 0 : Nat) : Int)) := by
  simp [iv, List.getD_eq_getElem?_getD, h]
theorem iv_one (l : List Nat) : ∀ u ∈ iv l, u.oneCell' = true := by
  intro u hu
  obtain ⟨x, _, rfl⟩ := List.mem_map.1 hu
  rfl
theorem iv_snoc (l : List Nat) (x : Nat) : iv (l ++ [x]) = iv l ++ [.int .i64 (x : Int)] := by simp [iv]

theorem rv_len : ∀ l, (rv l).length = l.length * 2
  | [] => rfl
  | x :: l => by
    have := rv_len l
    simp [rv, this]
    omega
theorem rv_snoc : ∀ (l : List (Nat × Bool)) (x : Nat × Bool), rv (l ++ [x]) = rv l ++ [.int .i64 (x.1 : Int), .bool x.2]
  | [], x => by simp [rv]
  | y :: l, x => by simp [rv, rv_snoc l x]
theorem rv_at : ∀ (l : List (Nat × Bool)) (i : Nat), i < l.length → (rv l)[i * 2]? = some (.int .i64 (((rd l i).1 : Nat) : Int)) ∧ (rv l)[i * 2 + 1]? = some (.bool (rd l i).2)
  | [], i, h => absurd h (by simp)
  | x :: l, 0, h => ⟨rfl, rfl⟩
  | x :: l, i + 1, h => by
    have ih := rv_at l i (by simpa using h)
    have e1 : (i + 1) * 2 = (i * 2) + 1 + 1 := by omega
    simp only [rv, e1]
    exact ih
theorem rv_one (l : List (Nat × Bool)) : ∀ u ∈ rv l, u.oneCell' = true := by
  induction l with
  | nil => intro u hu; simp [rv] at hu
  | cons x l ih =>
    intro u hu
    rcases List.mem_append.1 hu with h | h
    · simp at h
      rcases h with rfl | rfl <;> rfl
    · exact ih u h
theorem rv_set : ∀ (l : List (Nat × Bool)) (i : Nat) (x : Nat × Bool), i < l.length → rv (l.set i x) = ((rv l).set (i * 2) (.int .i64 (x.1 : Int))).set (i * 2 + 1) (.bool x.2)
  | [], i, x, h => absurd h (by simp)
  | y :: l, 0, x, h => rfl
  | y :: l, i + 1, x, h => by
    have ih := rv_set l i x (by simpa using h)
    have e1 : (i + 1) * 2 = (i * 2) + 1 + 1 := by omega
    simp only [List.set, rv, e1, ih]
    rfl

theorem Row.int {w : World} {B n : Nat} {A : Option Addr} {l : List Nat} (h : Row w B 1 A n (iv l)) {i : Nat} (hi : i < n) : ∃ b off, A = some ⟨b, off, none⟩ ∧ B ≤ b ∧ b < w.heap.size ∧ w.cell? ⟨b, off + i, none⟩ = some (.int .i64 ((l.getD i 0 : Nat) : Int)) := by
  obtain ⟨b, off, e, hB, hlt, hc⟩ := h.mem (by omega)
  have hl := h.len
  rw [iv_len] at hl
  exact ⟨b, off, e, hB, hlt, hc i _ (iv_at l i (by omega))⟩

theorem Row.rep {w : World} {B n : Nat} {A : Option Addr} {l : List (Nat × Bool)} (h : Row w B 2 A n (rv l)) {i : Nat} (hi : i < n) : ∃ b off, A = some ⟨b, off, none⟩ ∧ B ≤ b ∧ b < w.heap.size ∧ w.cell? ⟨b, off + i * 2, none⟩ = some (.int .i64 (((rd l i).1 : Nat) : Int)) ∧ w.cell? ⟨b, off + i * 2 + 1, none⟩ = some (.bool (rd l i).2) := by
  obtain ⟨b, off, e, hB, hlt, hc⟩ := h.mem (by omega)
  have hl := h.len
  rw [rv_len] at hl
  exact ⟨b, off, e, hB, hlt, hc _ _ (rv_at l i (by omega)).1, hc _ _ (rv_at l i (by omega)).2⟩

/-- A cluster as a value. -/
structure Vl where
  A1 : Option Addr
  c1 : Nat
  A2 : Option Addr
  c2 : Nat
  A3 : Option Addr
  c3 : Nat

def cv (c : Cl) (v : Vl) : Array Value := #[.bool c.f, .slice v.A1 c.s.length v.c1, .slice v.A2 c.r.length v.c2, .slice v.A3 c.p.length v.c3]

structure CL (w : World) (B : Nat) (c : Cl) (v : Vl) : Prop where
  r1 : Row w B 1 v.A1 c.s.length (iv c.s)
  r2 : Row w B 2 v.A2 c.r.length (rv c.r)
  r3 : Row w B 1 v.A3 c.p.length (iv c.p)

theorem CL.below {w w' : World} {B : Nat} {c : Cl} {v : Vl} (h : CL w B c v) (hb : Below w.heap.size w w') : CL w' B c v := ⟨h.r1.below hb, h.r2.below hb, h.r3.below hb⟩
theorem CL.base {w : World} {B B' : Nat} {c : Cl} {v : Vl} (h : CL w B c v) (hb : B' ≤ B) : CL w B' c v := ⟨h.r1.base hb, h.r2.base hb, h.r3.base hb⟩
theorem CL.grown {w w' : World} {B : Nat} {c : Cl} {v : Vl} {row : Option Nat} (h : CL w B c v) (hg : w.grownBy w' row) (hr : ∀ g, row = some g → g < B) : CL w' B c v := ⟨h.r1.grown hg hr, h.r2.grown hg hr, h.r3.grown hg hr⟩
theorem CL.fence {w : World} {B : Nat} {c : Cl} {v : Vl} (h : CL w B c v) (f : Bool) : CL w B ⟨f, c.s, c.r, c.p⟩ v := ⟨h.r1, h.r2, h.r3⟩

theorem cvCells (w : World) (c : Cl) (v : Vl) (t : TypeId) (o : Nat × Nat) (g : Nat) (h : w.heap[g]? = some (.cells (cv c v) t o)) :
    w.cell? ⟨g, 0, none⟩ = some (.bool c.f) ∧ w.cell? ⟨g, 1, none⟩ = some (.slice v.A1 c.s.length v.c1) ∧ w.cell? ⟨g, 2, none⟩ = some (.slice v.A2 c.r.length v.c2) ∧ w.cell? ⟨g, 3, none⟩ = some (.slice v.A3 c.p.length v.c3) := by
  refine ⟨?_, ?_, ?_, ?_⟩ <;> rw [cell_of_row _ _ _ _ _ _ h] <;> rfl

theorem tape_kept {w w' : World} {T : Nat} {row : Option Nat} (h : TapeOk w T) (hg : w.grownBy w' row) (hr : ∀ g, row = some g → T < g) : TapeOk w' T := by
  obtain ⟨A, n, c, z, p, hT, hmax, hp, hmem⟩ := h
  have hlt : T < w.heap.size := row_lt hT
  refine ⟨A, n, c, z, p, (hg.block T hlt (fun e => by have := hr T e.symm; omega)).trans hT, hmax, hp, fun hn => ?_⟩
  obtain ⟨b, off, rfl, hb, hc⟩ := hmem hn
  refine ⟨b, off, rfl, hb, fun j hj => ?_⟩
  exact (World.cell?_of_block (w := w) (hg.block b (by omega) (fun e => by have := hr b e.symm; omega))).trans (hc j hj)

theorem tape_below {w w' : World} {T : Nat} (h : TapeOk w T) (hb : Below w.heap.size w w') : TapeOk w' T := tape_kept (row := none) h ⟨hb.os, hb.tape, hb.output, hb.size, fun k hk _ => hb.block k hk⟩ (by simp)

theorem bits_and (x b : Nat) (hx : x ≤ 3) (hb : b ≤ 3) : bits .and .i64 (x : Int) (b : Int) = ((x &&& b : Nat) : Int) := by
  rcases (by omega : x = 0 ∨ x = 1 ∨ x = 2 ∨ x = 3) with rfl | rfl | rfl | rfl <;> rcases (by omega : b = 0 ∨ b = 1 ∨ b = 2 ∨ b = 3) with rfl | rfl | rfl | rfl <;> decide

theorem set_new (W : World) (cs : Array Value) (t : TypeId) (i : Nat) (E : Value) : (W.alloc (.cells cs t)).setCell ⟨W.heap.size, i, none⟩ E = W.alloc (.cells (cs.setIfInBounds i E) t) := by
  have key : ∀ (f : Obj → Obj) (o : Obj), (W.heap.push o).modify W.heap.size f = W.heap.push (f o) := fun f o => by
    apply Array.ext
    · simp
    · intro i h1 h2
      rw [Array.getElem_modify, Array.getElem_push, Array.getElem_push]
      by_cases hi : i < W.heap.size
      · rw [dif_pos hi, dif_pos hi, if_neg (by omega)]
      · rw [dif_neg hi, dif_neg hi, if_pos (by simp at h1; omega)]
  show ({ W with heap := (W.heap.push _).modify W.heap.size _ } : World) = ({ W with heap := W.heap.push _ } : World)
  rw [key]
  rfl

end Go.Proofs.Ytamcjhibdcbdnaa.Cl
