import Derived.Test.YtgknfkmojhganaaGreatAcMath
import Derived.Test.YtgknfkmojhganaaGreatAcJ
import Derived.OwnWalk
import Derived.Deep.RegionLaw
import Derived.StillTailTactics
import Derived.Deep.CutBlock
import Derived.WalkSpells
import Derived.Deep.AppendLies

namespace Go.Proofs.YtgknfkmojhganaaGreat.Di
set_option linter.unusedVariables false

/-- What an event does to the ways of a content. -/
def wst (k : Nat) (x : Ac) (c : Int) (F : Int → List Nat) (q : Int) : List Nat :=
  if x.k = 5 then (if x.c = c ∧ q = x.p then [k] else F q)
  else if x.k = 6 then (if x.c = c ∧ q = x.p then [] else F q)
  else if x.k = 7 then (if q = x.p ∧ F x.f ≠ [] ∧ F q = [] then F x.f ++ [k] else F q)
  else F q
/-- The ways of a content, behind the first k events, at a time. -/
def wy (l : List Ac) (c t : Int) : Nat → Int → List Nat
  | 0 => fun _ => []
  | k + 1 => if t < (ag l k).t then wy l c t k else wst k (ag l k) c (wy l c t k)
def wyA (l : List Ac) (c t : Int) (q : Int) : List Nat := wy l c t l.length q
theorem wst_len {k : Nat} {x : Ac} {c : Int} {F : Int → List Nat} (h : ∀ q, (F q).length ≤ k) (q : Int) : (wst k x c F q).length ≤ k + 1 := by
  unfold wst
  have h1 := h q
  have h2 := h x.f
  split <;> (try split) <;> (try split) <;> (try split) <;> simp <;> omega
theorem wy_len (l : List Ac) (c t : Int) : ∀ k q, (wy l c t k q).length ≤ k
  | 0, _ => Nat.le_refl _
  | k + 1, q => by
    have ih := wy_len l c t k
    rw [wy]
    split
    · exact Nat.le_succ_of_le (ih q)
    · exact wst_len ih q
theorem wy_skip (l : List Ac) (c t : Int) (m : Nat) : ∀ d, (∀ j, m ≤ j → j < m + d → t < (ag l j).t) → wy l c t (m + d) = wy l c t m
  | 0, _ => rfl
  | d + 1, h => by
    rw [show m + (d + 1) = m + d + 1 by omega, wy, if_pos (h (m + d) (by omega) (by omega))]
    exact wy_skip l c t m d (fun j h1 h2 => h j h1 (by omega))
theorem Eok.wy_end {a : Es} (h : Eok a) (c t : Int) {k : Nat} (hk : k < a.e.length) (ht : t < (ag a.e k).t) : wy a.e c t a.e.length = wy a.e c t k := by
  obtain ⟨d, hd⟩ : ∃ d, a.e.length = k + d := ⟨a.e.length - k, by omega⟩
  rw [hd]
  refine wy_skip a.e c t k d fun j h1 h2 => ?_
  obtain ⟨s, rfl⟩ : ∃ s, j = k + s := ⟨j - k, by omega⟩
  exact Int.lt_of_lt_of_le ht (h.mono s k (by omega))
theorem wy_same {l l' : List Ac} (c t : Int) : ∀ k, (∀ j, j < k → ag l j = ag l' j) → wy l c t k = wy l' c t k
  | 0, _ => rfl
  | k + 1, h => by rw [wy, wy, wy_same c t k (fun j hj => h j (by omega)), h k (by omega)]
theorem wyA_snoc (l : List Ac) (x : Ac) (c t q : Int) : wyA (l ++ [x]) c t q = if t < x.t then wyA l c t q else wst l.length x c (wyA l c t) q := by
  unfold wyA
  rw [List.length_append, List.length_singleton, wy, ag_end, wy_same c t l.length (l' := l) (fun j hj => ag_left hj)]
  split <;> rfl

end Go.Proofs.YtgknfkmojhganaaGreat.Di

namespace Go.Proofs.YtgknfkmojhganaaGreat.Di
open Go.RowKit
open Go.Proofs.YtgknfkmojhganaaGreat.Tp
set_option linter.unusedVariables false

/-- A store into an own row of one-cell elements: the cell is there, and not frozen; behind it the row is the list with that element. -/
theorem own_putC {W : World} {B n c G p : Nat} {e : TypeId} {u : Value} {xs : List Value} (h : W.ownsRow B e 1 (.slice (some ⟨G, 0, none⟩) n c) n xs) (hp : p < n) :
    W.cell? ⟨G, p, none⟩ = xs[p]? ∧ W.frozen? ⟨G, p, none⟩ = false ∧ (W.setCell ⟨G, p, none⟩ u).ownsRow B e 1 (.slice (some ⟨G, 0, none⟩) n c) n (xs.set p u) ∧ W.grownBy (W.setCell ⟨G, p, none⟩ u) (some G) := by
  rcases h.2 with ⟨hv, _⟩ | ⟨g', cap, cur, hv, hB, hh, h1, h2, h3, ht⟩
  · cases hv
  · cases hv
    have hl := h.1
    have hcl : cur.toList.length = c * 1 := by simpa using h3
    have hpc : p < cur.size := by omega
    refine ⟨?_, frozen_of_row _ _ _ _ _ hh, ⟨by rw [List.length_set]; exact hl, .inr ⟨G, c, cur.setIfInBounds p u, rfl, hB, ?_, h1, h2, by simpa using h3, ?_⟩⟩, gb_set _ _ _ _⟩
    · rw [cell_of_row _ _ _ _ _ _ hh, ← ht, List.getElem?_take_of_lt (by omega)]
      simp
    · rw [setCell_eq_setRow _ _ _ _ _ _ _ hh]
      exact setRow_heap _ _ _ _ _ _ hh
    · rw [← ht, Array.toList_setIfInBounds, List.take_set]
/-- The list of f's values below n. -/
def rlC {α : Type} (f : Nat → α) (n : Nat) : List α := (List.range n).map f
theorem rl_lenC {α : Type} (f : Nat → α) (n : Nat) : (rlC f n).length = n := by simp [rlC]
theorem rl_atC {α : Type} (f : Nat → α) (n i : Nat) (h : i < n) : (rlC f n)[i]? = some (f i) := by
  unfold rlC
  rw [List.getElem?_map, List.getElem?_range h]
  rfl
theorem rl_setC {α : Type} (f : Nat → α) (n k : Nat) (v : α) (h : k < n) : (rlC f n).set k v = rlC (fun j => if j = k then v else f j) n := by
  refine List.ext_getElem? fun i => ?_
  rw [List.getElem?_set, rl_lenC]
  by_cases hi : i < n
  · rw [rl_atC _ _ _ hi, rl_atC _ _ _ hi]
    by_cases e : k = i
    · subst e; simp [hi]
    · rw [if_neg e]
      simp only [if_neg (Ne.symm e)]
  · have e1 : (rlC f n)[i]? = none := List.getElem?_eq_none (by rw [rl_lenC]; omega)
    have e2 : (rlC (fun j => if j = k then v else f j) n)[i]? = none := List.getElem?_eq_none (by rw [rl_lenC]; omega)
    rw [e1, e2, if_neg (by omega)]
theorem rl_constC {α : Type} (v : α) (n : Nat) : rlC (fun _ => v) n = List.replicate n v := by
  refine List.ext_getElem? fun i => ?_
  by_cases hi : i < n
  · rw [rl_atC _ _ _ hi, List.getElem?_replicate, if_pos hi]
  · rw [List.getElem?_eq_none (by rw [rl_lenC]; omega), List.getElem?_replicate, if_neg hi]

/-- Lists in memory: the row of rows at G, the rows at places of their own. -/
structure WO (w : World) (B n G : Nat) (h : Nat → Option Addr) (cc : Nat → Nat) (f : Nat → List Nat) : Prop where
  out : w.ownsRow B 22 1 (.slice (some ⟨G, 0, none⟩) n n) n (rlC (fun p => Value.slice (h p) (f p).length (cc p)) n)
  row : ∀ p, p < n → w.ownsRow B 3 1 (.slice (h p) (f p).length (cc p)) (f p).length (iv (f p))
section
variable {w w' : World} {B n G : Nat} {h : Nat → Option Addr} {cc : Nat → Nat} {f : Nat → List Nat}
theorem WO.below (H : WO w B n G h cc f) (hb : Below w.heap.size w w') : WO w' B n G h cc f := ⟨own_below H.out hb, fun p hp => own_below (H.row p hp) hb⟩
theorem WO.drew (H : WO w B n G h cc f) : WO w.drew B n G h cc f := ⟨H.out, H.row⟩
theorem WO.base {B' : Nat} (H : WO w B n G h cc f) (hb : B' ≤ B) : WO w B' n G h cc f := ⟨own_base H.out hb, fun p hp => own_base (H.row p hp) hb⟩
/-- The cell of a place. -/
theorem WO.cell (H : WO w B n G h cc f) {p : Nat} (hp : p < n) : w.cell? ⟨G, p, none⟩ = some (.slice (h p) (f p).length (cc p)) ∧ w.frozen? ⟨G, p, none⟩ = false := by
  obtain ⟨h1, h2, -, -⟩ := own_putC (u := .bool true) H.out hp
  rw [rl_atC _ _ _ hp] at h1
  exact ⟨h1, h2⟩
theorem WO.lt (H : WO w B n G h cc f) : B ≤ G ∧ G < w.heap.size := H.out.lt G rfl
theorem WO.put (H : WO w B n G h cc f) {p : Nat} (hp : p < n) {A : Option Addr} {c : Nat} {L : List Nat} (hrow : w.ownsRow B 3 1 (.slice A L.length c) L.length (iv L)) :
    WO (w.setCell ⟨G, p, none⟩ (.slice A L.length c)) B n G (fun j => if j = p then A else h j) (fun j => if j = p then c else cc j) (fun j => if j = p then L else f j) := by
  obtain ⟨-, -, h1, hg⟩ := own_putC (u := .slice A L.length c) H.out hp
  have key : ∀ {A' : Option Addr} {c' m : Nat} {xs : List Value}, w.ownsRow B 3 1 (.slice A' m c') m xs → (w.setCell ⟨G, p, none⟩ (.slice A L.length c)).ownsRow B 3 1 (.slice A' m c') m xs := fun hr =>
    kept_ne hr hg (fun g e => by cases e; exact fun e2 => own_ne hr H.out (by decide) G e2 rfl)
  refine ⟨?_, fun j hj => ?_⟩
  · rw [rl_setC _ _ _ _ hp] at h1
    have e : (fun j => if j = p then Value.slice A L.length c else Value.slice (h j) (f j).length (cc j)) = fun j => Value.slice (if j = p then A else h j) (if j = p then L else f j).length (if j = p then c else cc j) := by
      funext j
      by_cases e : j = p
      · simp [e]
      · simp [e]
    rw [e] at h1
    exact h1
  · by_cases e : j = p
    · simp only [if_pos e]
      exact key hrow
    · simp only [if_neg e]
      exact key (H.row j hj)
theorem WO.congr (H : WO w B n G h cc f) {f' : Nat → List Nat} (hf : ∀ p, p < n → f p = f' p) : WO w B n G h cc f' := by
  refine ⟨?_, fun p hp => by rw [← hf p hp]; exact H.row p hp⟩
  have e : rlC (fun p => Value.slice (h p) (f p).length (cc p)) n = rlC (fun p => Value.slice (h p) (f' p).length (cc p)) n := by
    unfold rlC
    refine List.map_congr_left fun p hp => ?_
    rw [hf p (List.mem_range.1 hp)]
  rw [← e]
  exact H.out
/-- What grows at a row of its own leaves the lists. -/
theorem WO.grown (H : WO w B n G h cc f) {v : Value} {m B' : Nat} {xs : List Value} (hv : w.ownsRow B' 3 1 v m xs) (hB : w.heap.size ≤ B' ∨ ∀ p, p < n → v.ownBlock ≠ (Value.slice (h p) (f p).length (cc p)).ownBlock ∨ v.ownBlock = none) (hg : w.grownBy w' v.ownBlock) : WO w' B n G h cc f := by
  refine ⟨kept_ne H.out hg (fun g e e2 => own_ne hv H.out (by decide) g e e2), fun p hp => ?_⟩
  refine kept_ne (H.row p hp) hg (fun g e e2 => ?_)
  rcases hB with h1 | h1
  · have := (hv.lt g e).1
    have := ((H.row p hp).lt g e2).2
    omega
  · rcases h1 p hp with h2 | h2
    · exact h2 (by rw [e, e2])
    · rw [h2] at e; cases e
end

end Go.Proofs.YtgknfkmojhganaaGreat.Di

namespace Go.Proofs.YtgknfkmojhganaaGreat.Di
open Go.RowKit
open Go.Proofs.YtgknfkmojhganaaGreat.Tp
set_option linter.unusedVariables false
set_option linter.unusedSimpArgs false

theorem zinfo22 : (Tryz.prog.info? 22).map (fun i => (i.zero, i.size, i.bytes)) = some (some (.slice none 0 0), 1, 24) := by kernel_rfl
theorem made_cellsC (z : Value) (n : Nat) : (madeCells #[z] (n * 1)).toList = rlC (fun _ => z) n := by
  rw [Nat.mul_one, toList_madeCells_one, rl_constC]
theorem own_new (w : World) (B : Nat) (x : Value) (hB : B ≤ w.heap.size) : (w.alloc (.cells #[x] 3)).ownsRow B 3 1 (.slice (some ⟨w.heap.size, 0, none⟩) 1 1) 1 [x] :=
  ⟨rfl, .inr ⟨w.heap.size, 1, #[x], rfl, hB, heap_alloc_new w _, Nat.le_refl _, by unfold maxLen; omega, rfl, rfl⟩⟩
theorem own_new0 (w : World) (B : Nat) (hB : B ≤ w.heap.size) : (w.alloc (.cells #[] 3)).ownsRow B 3 1 (.slice (some ⟨w.heap.size, 0, none⟩) 0 0) 0 [] :=
  ⟨rfl, .inr ⟨w.heap.size, 0, #[], rfl, hB, heap_alloc_new w _, Nat.le_refl _, Nat.zero_le _, rfl, rfl⟩⟩
theorem Row.news {w : World} {B n : Nat} {A : Option Addr} {l : List Value} (h : Row w B 1 A n l) (hn : 0 < n) : ∃ ad, A = some ad ∧ ∀ j u, l[j]? = some u → w.cell? (ad.add j) = some u := by
  obtain ⟨b, off, e, -, -, hc⟩ := h.mem hn
  refine ⟨_, e, fun j u hu => ?_⟩
  have hadd : (⟨b, off, none⟩ : Addr).add j = ⟨b, off + j, none⟩ := by unfold Addr.add; split <;> simp_all
  rw [hadd]
  exact hc j u hu

def ClnPost (l : List Nat) (w : World) (e : Ending) (w' : World) : Prop := ∃ A cc, e = .returned (.slice A l.length cc) ∧ w'.ownsRow w.heap.size 3 1 (.slice A l.length cc) l.length (iv l) ∧ Below w.heap.size w w'
set_option maxRecDepth 100000 in
set_option maxHeartbeats 400000 in
theorem clone_any (l : List Nat) (A : Option Addr) (cc : Nat) (w : World) (h : Row w 0 1 A l.length (iv l)) (hn : 0 < l.length) (hm : l.length ≤ 1000) :
    Calls Tryz.prog 130 #[.slice A l.length cc] w (ClnPost l w) := by
  have hb := box_below w (.cells #[] 3)
  have hr := Row.below h hb
  obtain ⟨ad, rfl, hnews⟩ := hr.news hn
  have HNW := Lib.hid hnews
  have HB := Lib.hid hb
  have HO := Lib.hid (own_new0 w w.heap.size (Nat.le_refl _))
  obtain ⟨i0, hi1, hz0, hz1, hz2⟩ := info_parts zinfo3
  have HI := Lib.hid hi1
  have HI0 := Lib.hid hz0
  have HI1 := Lib.hid hz1
  have HI2 := Lib.hid hz2
  have HIL := Lib.hid (iv_len l)
  have HI1' := Lib.hid (iv_one l)
  clear hi1 hz0 hz1 hz2 h hb hr hnews
  have q22 : ∀ (w : World) (a : Option Addr) (n c n' c' : Nat), (binOp .eql 22 (.slice a n c) (.slice none n' c')).run Tryz.prog w = .ok (.bool a.isNone) w := fun w a n c n' c' => Lib.run_eql_slice_nil w _ _ a n c n' c' Tryz.underlying22
  go_enter Tryz.func130, Tryz.ntmps130
  go_wp2_with (at_builtin; refine wpList_append_own _ rfl (.tmp 5) (.tmp 6) 22 rfl w.heap.size 3 i0 (.int .i64 0) 1 8 Tryz.underlying22 HI.out HI0.out HI1.out HI2.out rfl (by decide) _ 0 [] rfl HO.out ad l.length cc (iv l) rfl HIL.out HNW.out HI1'.out (by unfold maxLen; omega) (by omega) (by simp) ?_; intro v' w6 hown hgr _; have O6 := Lib.hid hown; have B6 := Lib.hid (HB.out.grown hgr HB.out.size (fun g e => by cases e; exact Nat.le_refl _)); clear hown hgr)
  go_ret
  have ho := O6.out
  rw [Nat.zero_add, List.nil_append] at ho
  obtain ⟨A, c2, rfl⟩ := own_form ho
  exact ⟨A, c2, by first | rfl | simp, ho, B6.out⟩

def WyPost (a : Es) (c t : Int) (n : Nat) (w : World) (e : Ending) (w' : World) : Prop := ∃ G hh cc, e = .returned (.slice (some ⟨G, 0, none⟩) n n) ∧ WO w' w.heap.size n G hh cc (fun p => wyA a.e c t p) ∧ Below w.heap.size w w'
/-- While events are met. -/
def WRel (a : Es) (c t : Int) (n G : Nat) (w : World) (k : Nat) (W : World) : Prop := ∃ hh cc, WO W w.heap.size n G hh cc (fun p => wy a.e c t k p) ∧ Below w.heap.size w W
theorem WRel.same {a : Es} {c t : Int} {n G : Nat} {w : World} {k : Nat} {W : World} {hh : Nat → Option Addr} {cc : Nat → Nat} {F : Int → List Nat} (h1 : WO W w.heap.size n G hh cc (fun p => F p)) (h2 : Below w.heap.size w W) (hs : ∀ q, wy a.e c t (k + 1) q = F q) : WRel a c t n G w (k + 1) W :=
  ⟨hh, cc, h1.congr (fun p _ => (hs p).symm), h2⟩
theorem WRel.put {a : Es} {c t : Int} {n G P : Nat} {w : World} {k : Nat} {W : World} {hh : Nat → Option Addr} {cc : Nat → Nat} {F : Int → List Nat} (h1 : WO W w.heap.size n G hh cc (fun p => F p)) (h2 : Below w.heap.size w W) (hP : P < n)
    {A : Option Addr} {c' : Nat} {L : List Nat} (hrow : W.ownsRow w.heap.size 3 1 (.slice A L.length c') L.length (iv L)) (hs : ∀ q : Int, wy a.e c t (k + 1) q = if q = (P : Int) then L else F q) :
    WRel a c t n G w (k + 1) (W.setCell ⟨G, P, none⟩ (.slice A L.length c')) := by
  refine ⟨_, _, (h1.put hP hrow).congr (fun p _ => ?_), h2.grown (own_putC (u := .slice A L.length c') h1.out hP).2.2.2 h2.size (fun g e => by cases e; exact h1.lt.1)⟩
  rw [hs]
  by_cases e : p = P
  · rw [if_pos e, if_pos (by rw [e])]
  · rw [if_neg e, if_neg (by omega)]
theorem WO.grown2 {w w' w0 : World} {B B0 n G : Nat} {h : Nat → Option Addr} {cc : Nat → Nat} {f : Nat → List Nat} (H : WO w B n G h cc f) (H0 : WO w0 B0 n G h cc f) {v : Value} {m B' : Nat} {xs : List Value} (hv : w.ownsRow B' 3 1 v m xs) (hB : w0.heap.size ≤ B') (hg : w.grownBy w' v.ownBlock) : WO w' B n G h cc f := by
  refine ⟨kept_ne H.out hg (fun g e e2 => own_ne hv H.out (by decide) g e e2), fun p hp => ?_⟩
  refine kept_ne (H.row p hp) hg (fun g e e2 => ?_)
  have := (hv.lt g e).1
  have := ((H0.row p hp).lt g e2).2
  omega
theorem WRel.puts {a : Es} {c t : Int} {n G P : Nat} {w : World} {k lf : Nat} {W : World} {hh : Nat → Option Addr} {cc : Nat → Nat} {F : Int → List Nat} {L : List Nat} (h1 : WO W w.heap.size n G hh cc (fun p => F p)) (h2 : Below w.heap.size w W) (hP : P < n)
    {A : Option Addr} {c' : Nat} (hlf : L.length = lf) (hrow : W.ownsRow w.heap.size 3 1 (.slice A (lf + 1) c') (lf + 1) (iv L ++ [.int .i64 (k : Int)])) (hs : ∀ q : Int, wy a.e c t (k + 1) q = if q = (P : Int) then L ++ [k] else F q) :
    WRel a c t n G w (k + 1) (W.setCell ⟨G, P, none⟩ (.slice A (lf + 1) c')) := by
  have e : (L ++ [k]).length = lf + 1 := by simp [hlf]
  have := WRel.put h1 h2 hP (L := L ++ [k]) (A := A) (c' := c') (by rw [e, iv_snoc]; exact hrow) hs
  rw [e] at this
  exact this
set_option maxRecDepth 100000 in
set_option maxHeartbeats 4000000 in
theorem ways_any (a : Es) (v : Ve) (c t : Int) (n : Nat) (w : World) (h : EL w 0 a v) (hok : Eok a) (hn : a.n = (n : Int)) :
    Calls Tryz.prog 120 #[.agg (ge a v), .int .i64 c, .int .i64 t] w (WyPost a c t n w) := by
  obtain ⟨A, vc⟩ := v
  have hn1 := hok.n1
  have hn16 := hok.n16
  have hm := hok.m
  have HOK := Lib.hid hok
  have HE := Lib.hid h
  have HB0 := Lib.hid (box_below w (.cells (ge a ⟨A, vc⟩) 28))
  have R0 := Lib.hid (heap_alloc_new w (.cells (ge a ⟨A, vc⟩) 28))
  obtain ⟨g0, g1⟩ := geCells R0.out
  obtain ⟨i0, hi1, hz0, hz1, hz2⟩ := info_parts zinfo22
  have HI := Lib.hid hi1
  have HI0 := Lib.hid hz0
  have HI1 := Lib.hid hz1
  have HI2 := Lib.hid hz2
  obtain ⟨j0, hj1, hy0, hy1, hy2⟩ := info_parts zinfo3
  have HJ := Lib.hid hj1
  have HJ0 := Lib.hid hy0
  have HJ1 := Lib.hid hy1
  have HJ2 := Lib.hid hy2
  have hz : (w.alloc (.cells (ge a ⟨A, vc⟩) 28)).heap.size = w.heap.size + 1 := by simp
  clear hi1 hz0 hz1 hz2 hj1 hy0 hy1 hy2 h hok
  go_enter Tryz.func120, Tryz.ntmps120
  go_wp2_with (at_make; refine wpList_make_full _ rfl _ _ 132 rfl w.heap.size 22 i0 (.slice none 0 0) 1 Tryz.underlying132 HI.out HI0.out HI1.out .i64 .i64 _ _ n rfl rfl (by first | rfl | exact hn) (by first | rfl | exact hn) (by rw [HI2.out]; omega) (by unfold maxLen; omega) (by rw [hz]; exact Nat.le_succ _) ?_; intro w1 hown hgr; rw [hz] at hown; have HOWN := Lib.hid hown; have HGR := Lib.hid hgr; have R1 := Lib.hid ((hgr.block _ (row_lt R0.out) (by simp)).trans R0.out); clear hown hgr g0 g1; obtain ⟨g0, g1⟩ := geCells R1.out)
  have HB1 := Lib.hid (HB0.out.grown HGR.out HB0.out.size (fun k e => by cases e))
  have HW1 := Lib.hid (show WRel a c t n (w.heap.size + 1) w 0 w1 from by
    refine ⟨fun _ => none, fun _ => 0, ⟨?_, fun p hp => own_nil _ _ _ _⟩, HB1.out⟩
    have e := HOWN.out
    rw [show Value.cells (.slice none 0 0) = #[.slice none 0 0] from rfl, made_cellsC] at e
    exact e)
  clear HOWN HGR g0 g1 R0 R1
  go_loopw [16] (fun ii wr => ∃ k : Nat, k ≤ a.e.length ∧ ii = .int .i64 (k : Int) ∧ WRel a c t n (w.heap.size + 1) w k wr) (fun ii _ => a.e.length - (intOf ii).toNat)
  case atStart => exact ⟨0, by omega, rfl, HW1.out⟩
  case round =>
    obtain ⟨k, hk, rfl, hh, cc, hwo, hbl⟩ := hrel
    have HWO := Lib.hid hwo
    have HBL := Lib.hid hbl
    clear hwo hbl HW1 HB1
    by_cases hlt : k < a.e.length
    · obtain ⟨b, off, hA, -, hbk, hac⟩ := (Row.below HE.out HBL.out).ac hlt
      have hA : A = some ⟨b, off, none⟩ := hA
      subst hA
      obtain ⟨y0, y1, y2, y3, y4, y5, y6⟩ := hac
      have hev := HOK.out.e k hlt
      have HEND := Lib.hid (fun h => HOK.out.wy_end c t hlt h)
      have hst : ∀ q, wy a.e c t (k + 1) q = if t < (ag a.e k).t then wy a.e c t k q else wst k (ag a.e k) c (wy a.e c t k) q := fun q => by rw [wy]; split <;> rfl
      have HST := Lib.hid hst
      have HFL := Lib.hid (wy_len a.e c t k)
      clear hst
      generalize ag a.e k = x at *
      generalize hF : wy a.e c t k = F at *
      have HF := Lib.hid hF
      clear hF
      obtain ⟨xt, xk, xp, xr, xu, xc, xf⟩ := x
      simp only at y0 y1 y2 y3 y4 y5 y6
      have hbx := box_below wr (.cells #[.int .i64 xt, .int .i64 xk, .int .i64 xp, .int .i64 xr, .int .i64 xu, .int .i64 xc, .int .i64 xf] 76)
      obtain ⟨n0, n1, n2, n3, n4, n5, n6⟩ := accCells (x := ⟨xt, xk, xp, xr, xu, xc, xf⟩) (heap_alloc_new wr (.cells #[.int .i64 xt, .int .i64 xk, .int .i64 xp, .int .i64 xr, .int .i64 xu, .int .i64 xc, .int .i64 xf] 76))
      simp only at n0 n1 n2 n3 n4 n5 n6
      have WX := Lib.hid (HWO.out.below hbx)
      have BX := Lib.hid (HBL.out.trans (hbx.mono HBL.out.size))
      have XN := Lib.hid (heap_alloc_new wr (.cells #[.int .i64 xt, .int .i64 xk, .int .i64 xp, .int .i64 xr, .int .i64 xu, .int .i64 xc, .int .i64 xf] 76))
      have hwsz := HBL.out.size
      have hsz1 : (wr.alloc (.cells #[.int .i64 xt, .int .i64 xk, .int .i64 xp, .int .i64 xr, .int .i64 xu, .int .i64 xc, .int .i64 xf] 76)).heap.size = wr.heap.size + 1 := by simp
      obtain ⟨-, -, hp0, hp1, hfit⟩ := hev
      simp only at hp0 hp1
      have j0' : (0 : Int) ≤ (k : Int) := by omega
      have j1' : (k : Int) < (a.e.length : Int) := by omega
      obtain ⟨P, rfl⟩ : ∃ P : Nat, xp = (P : Int) := ⟨xp.toNat, by omega⟩
      have hPn : P < n := by omega
      have P0 : (0 : Int) ≤ (P : Int) := by omega
      have P1 : (P : Int) < (n : Int) := by omega
      have HFIT := Lib.hid hfit
      clear hbx hfit hp0 hp1
      by_cases ht : t < xt
      · have d1 : decide (t < xt) = true := decide_eq_true ht
        have HEQ := Lib.hid (HEND.out ht)
        clear ht
        go_wp2_with fail
        go_ret
        exact ⟨_, hh, cc, rfl, WX.out.congr (fun p _ => by unfold wyA; rw [HEQ.out]), BX.out⟩
      · have d1 : decide (t < xt) = false := decide_eq_false ht
        have HS2 := Lib.hid (fun q => (HST.out q).trans (if_neg ht))
        clear ht
        by_cases h5 : xk = 5
        · subst h5
          by_cases hc : xc = c
          · have d2 : (xc == c) = true := by rw [hc]; simp
            have HS3 := Lib.hid (fun q => show wy a.e c t (k + 1) q = if q = (P : Int) then [k] else F q by rw [HS2.out]; unfold wst; simp [hc])
            obtain ⟨cz, fz⟩ := WX.out.cell hPn
            have WN := Lib.hid (WX.out.below (box_below (wr.alloc (.cells #[.int .i64 xt, .int .i64 5, .int .i64 P, .int .i64 xr, .int .i64 xu, .int .i64 xc, .int .i64 xf] 76)) (.cells #[.int .i64 (k : Int)] 3)))
            have BN := Lib.hid (BX.out.trans ((box_below (wr.alloc (.cells #[.int .i64 xt, .int .i64 5, .int .i64 P, .int .i64 xr, .int .i64 xu, .int .i64 xc, .int .i64 xf] 76)) (.cells #[.int .i64 (k : Int)] 3)).mono BX.out.size))
            have ON := Lib.hid (own_new (wr.alloc (.cells #[.int .i64 xt, .int .i64 5, .int .i64 P, .int .i64 xr, .int .i64 xu, .int .i64 xc, .int .i64 xf] 76)) w.heap.size (.int .i64 (k : Int)) BX.out.size)
            rw [hsz1] at ON
            obtain ⟨cz2, fz2⟩ := WN.out.cell hPn
            clear hc
            go_wp2_with fail
            exact ⟨⟨k + 1, by omega, by go_num, WRel.put WN.out BN.out hPn (L := [k]) ON.out HS3.out⟩, by simp [intOf]; omega⟩
          · have d2 : (xc == c) = false := beq_eq_false_iff_ne.2 hc
            have HS3 := Lib.hid (fun q => show wy a.e c t (k + 1) q = F q by rw [HS2.out]; unfold wst; simp [hc])
            clear hc
            go_wp2_with fail
            exact ⟨⟨k + 1, by omega, by go_num, WRel.same WX.out BX.out HS3.out⟩, by simp [intOf]; omega⟩
        · have d5 : (xk == 5) = false := beq_eq_false_iff_ne.2 h5
          by_cases h6 : xk = 6
          · subst h6
            by_cases hc : xc = c
            · have d2 : (xc == c) = true := by rw [hc]; simp
              have HS3 := Lib.hid (fun q => show wy a.e c t (k + 1) q = if q = (P : Int) then [] else F q by rw [HS2.out]; unfold wst; simp [hc])
              obtain ⟨cz, fz⟩ := WX.out.cell hPn
              clear hc h5
              go_wp2_with fail
              exact ⟨⟨k + 1, by omega, by go_num, WRel.put WX.out BX.out hPn (L := []) (own_nil _ _ _ _) HS3.out⟩, by simp [intOf]; omega⟩
            · have d2 : (xc == c) = false := beq_eq_false_iff_ne.2 hc
              have HS3 := Lib.hid (fun q => show wy a.e c t (k + 1) q = F q by rw [HS2.out]; unfold wst; simp [hc])
              clear hc h5
              go_wp2_with fail
              exact ⟨⟨k + 1, by omega, by go_num, WRel.same WX.out BX.out HS3.out⟩, by simp [intOf]; omega⟩
          · have d6 : (xk == 6) = false := beq_eq_false_iff_ne.2 h6
            by_cases h7 : xk = 7
            · subst h7
              obtain ⟨hf0, hf1, hfp, -⟩ := (by rcases HFIT.out with ⟨h, _⟩ | ⟨h, _⟩ | ⟨h, _⟩ | ⟨h, _⟩ | ⟨_, h⟩ <;> (try (simp at h)) ; exact h : 0 ≤ xf ∧ xf < a.n ∧ xf ≠ (P : Int) ∧ xr = 0 ∧ xu = 0 ∧ xc = 0)
              obtain ⟨Fr, rfl⟩ : ∃ Fr : Nat, xf = (Fr : Int) := ⟨xf.toNat, by omega⟩
              have hFn : Fr < n := by omega
              have F0 : (0 : Int) ≤ (Fr : Int) := by omega
              have F1 : (Fr : Int) < (n : Int) := by omega
              obtain ⟨cz, fz⟩ := WX.out.cell hPn
              obtain ⟨cf, -⟩ := WX.out.cell hFn
              have HS3 := Lib.hid (fun q => show wy a.e c t (k + 1) q = if q = (P : Int) ∧ F Fr ≠ [] ∧ F q = [] then F Fr ++ [k] else F q by rw [HS2.out]; unfold wst; simp)
              have hflk := HFL.out Fr
              clear h5 h6
              have hcl := (fun w' hb => clone_any (F Fr) (hh Fr) (cc Fr) w' ((row_of_own (own_below (WX.out.row Fr hFn) hb)).base (Nat.zero_le _)))
              unfold ClnPost at hcl
              obtain ⟨lf, hlf⟩ : ∃ lf, (F Fr).length = lf := ⟨_, rfl⟩
              obtain ⟨lp, hlp⟩ : ∃ lp, (F P).length = lp := ⟨_, rfl⟩
              rw [hlf] at hflk
              replace cf : World.cell? _ _ = some (Value.slice (hh Fr) (F Fr).length (cc Fr)) := cf
              replace cz : World.cell? _ _ = some (Value.slice (hh P) (F P).length (cc P)) := cz
              rw [hlf] at cf hcl
              have HCL := Lib.hid hcl
              clear hcl
              rw [hlp] at cz
              have HLF := Lib.hid hlf
              have HLP := Lib.hid hlp
              clear hlf hlp
              by_cases e1 : lf = 0
              · have HS4 := Lib.hid (fun q => (HS3.out q).trans (if_neg (fun (h : q = (P : Int) ∧ F Fr ≠ [] ∧ F q = []) => h.2.1 (List.length_eq_zero_iff.1 (HLF.out.trans e1)))))
                subst e1
                go_wp2_with fail
                exact ⟨⟨k + 1, by omega, by go_num, WRel.same WX.out BX.out HS4.out⟩, by simp [intOf]; omega⟩
              · have d1' : decide ((0 : Int) < (lf : Int)) = true := decide_eq_true (by omega)
                have d1'' : decide (0 < lf) = true := decide_eq_true (by omega)
                by_cases e2 : lp = 0
                · have HS4 := Lib.hid (fun q => show wy a.e c t (k + 1) q = if q = (P : Int) then F Fr ++ [k] else F q by
                    rw [HS3.out]
                    by_cases e : q = (P : Int)
                    · subst e; rw [if_pos ⟨rfl, fun h => e1 (by rw [← HLF.out, h]; rfl), List.length_eq_zero_iff.1 (HLP.out.trans e2)⟩, if_pos rfl]
                    · rw [if_neg (fun h => e h.1), if_neg e])
                  subst e2
                  have e1' : 0 < lf := by omega
                  clear e1
                  go_wp2_with fail
                  clear n0 n1 n3 n4 n5
                  generalize hwx : wr.alloc (.cells #[.int .i64 xt, .int .i64 7, .int .i64 P, .int .i64 xr, .int .i64 xu, .int .i64 xc, .int .i64 Fr] 76) = wx at *
                  clear hwx
                  have z2 := (World.cell?_alloc_lt wx (.cells #[.int .i64 (k : Int)] 3) ⟨wr.heap.size, 2, none⟩ (by show wr.heap.size < _; omega)).trans n2
                  have z6 := (World.cell?_alloc_lt wx (.cells #[.int .i64 (k : Int)] 3) ⟨wr.heap.size, 6, none⟩ (by show wr.heap.size < _; omega)).trans n6
                  have cf2 := (World.cell?_alloc_lt wx (.cells #[.int .i64 (k : Int)] 3) ⟨w.heap.size + 1, Fr, none⟩ WX.out.lt.2).trans cf
                  go_region_law (first
                    | (go_simp; go_at_call 130; (with_reducible refine (HCL.out _ ?_ (by omega) (by omega)).mono ?_); (first | exact Below.refl _ _ | exact (Below.refl _ _).drew | exact box_below _ _ | exact (box_below _ _).drew | exact (Below.refl _ _).drew.trans ((box_below wx.drew _).mono (Nat.le_refl _)) | exact ((Below.refl _ _).drew.trans ((box_below wx.drew _).mono (Nat.le_refl _))).drew); rintro e w3 ⟨A3, c3, rfl, hown3, hb3⟩; have P3 := Lib.hid (show Below wx.heap.size wx w3 from (by first | exact hb3 | exact (Below.refl _ _).drew.trans (hb3.mono (Nat.le_refl _)) | exact (box_below wx _).trans (hb3.mono (by simp)) | exact (Below.refl _ _).drew.trans ((box_below wx.drew _).trans (hb3.mono (by simp))) | exact ((Below.refl _ _).drew.trans ((box_below wx.drew _).mono (Nat.le_refl _))).drew.trans (hb3.mono (Nat.le_succ _)))); have O3 := Lib.hid (show w3.ownsRow wx.heap.size 3 1 (.slice A3 lf c3) lf (iv (F Fr)) from (by first | exact hown3 | exact own_base hown3 (by simp))); (first | (have K3 := Lib.hid ((hb3.block wx.heap.size (by simp)).trans (heap_alloc_new wx _))) | (have K3 := Lib.hid (show w3.heap[wx.heap.size]? = _ from (hb3.block wx.heap.size (Nat.lt_succ_self _)).trans (heap_alloc_new wx.drew _))) | skip); have B3 := Lib.hid (BX.out.trans (P3.out.mono BX.out.size)); have hs3 := P3.out.size; have n2c := (P3.out.cell (p := ⟨wr.heap.size, 2, none⟩) (by show wr.heap.size < _; omega)).trans n2; have n2e := fun o => (World.cell?_alloc_lt w3 o ⟨wr.heap.size, 2, none⟩ (by show wr.heap.size < _; omega)).trans n2c; clear hown3 hb3)
                    | (refine step_append_lies _ rfl (.tmp 75) (.tmp 77) 22 rfl wx.heap.size 3 j0 (.int .i64 0) 1 8 Tryz.underlying22 HJ.out HJ0.out HJ1.out HJ2.out rfl (by decide) (.slice A3 lf c3) lf (iv (F Fr)) (by simp [Act.eval, Act.put]) (show World.ownsRow (w3.alloc (.cells #[.int .i64 (k : Int)] 3)) _ _ _ _ _ _ from O3.out.alloc (.cells #[.int .i64 (k : Int)] 3)) ⟨w3.heap.size, 0, none⟩ 1 1 [.int .i64 (k : Int)] (by simp [Act.eval, Act.put]) rfl (World.news_of_block (show (w3.alloc (.cells #[.int .i64 (k : Int)] 3)).heap[w3.heap.size]? = _ from heap_alloc_new w3 (.cells #[.int .i64 (k : Int)] 3))) (fun u hu => by rw [List.mem_singleton] at hu; subst hu; rfl) (by decide) (by unfold maxLen; omega) (by omega) (by first | exact hs3 | (simp; omega)) _ rfl ?_; intro g5 c5 w5 hown5 hgr _ _; have W5 := Lib.hid (WO.grown2 ((WX.out.below P3.out).below (box_below w3 (.cells #[.int .i64 (k : Int)] 3))) WX.out (show World.ownsRow (w3.alloc (.cells #[.int .i64 (k : Int)] 3)) _ _ _ _ _ _ from O3.out.alloc (.cells #[.int .i64 (k : Int)] 3)) (Nat.le_refl _) hgr); have B5 := Lib.hid ((B3.out.trans ((box_below w3 (.cells #[.int .i64 (k : Int)] 3)).mono B3.out.size)).grown hgr (B3.out.trans ((box_below w3 (.cells #[.int .i64 (k : Int)] 3)).mono B3.out.size)).size (fun g e => Nat.le_trans BX.out.size (O3.out.lt g e).1)); have HP5 := Lib.hid (WRel.puts W5.out B5.out hPn HLF.out (own_base hown5 BX.out.size) HS4.out); obtain ⟨c5z, f5z⟩ := W5.out.cell hPn; have n2d := (World.cell?_of_block (a := ⟨wr.heap.size, 2, none⟩) (hgr.block wr.heap.size (by first | omega | (simp; omega) | exact Nat.lt_succ_of_lt (by omega)) (fun e => by have := (O3.out.lt _ e.symm).1; omega))).trans (by first | exact n2c | exact n2e _); clear hown5 hgr)
                    | (refine step_append_lies _ rfl (.tmp 75) (.tmp 77) 22 rfl wx.heap.size 3 j0 (.int .i64 0) 1 8 Tryz.underlying22 HJ.out HJ0.out HJ1.out HJ2.out rfl (by decide) (.slice A3 lf c3) lf (iv (F Fr)) (by simp [Act.eval, Act.put]) (show World.ownsRow (World.drew (w3.alloc (.cells #[.int .i64 (k : Int)] 3))) _ _ _ _ _ _ from O3.out.alloc (.cells #[.int .i64 (k : Int)] 3)) ⟨w3.heap.size, 0, none⟩ 1 1 [.int .i64 (k : Int)] (by simp [Act.eval, Act.put]) rfl (World.news_of_block (show (World.drew (w3.alloc (.cells #[.int .i64 (k : Int)] 3))).heap[w3.heap.size]? = _ from heap_alloc_new w3 (.cells #[.int .i64 (k : Int)] 3))) (fun u hu => by rw [List.mem_singleton] at hu; subst hu; rfl) (by decide) (by unfold maxLen; omega) (by omega) (by first | exact hs3 | (simp; omega)) _ rfl ?_; intro g5 c5 w5 hown5 hgr _ _; have W5 := Lib.hid (WO.grown2 ((WX.out.below P3.out).below (box_below w3 (.cells #[.int .i64 (k : Int)] 3))).drew WX.out (show World.ownsRow (World.drew (w3.alloc (.cells #[.int .i64 (k : Int)] 3))) _ _ _ _ _ _ from O3.out.alloc (.cells #[.int .i64 (k : Int)] 3)) (Nat.le_refl _) hgr); have B5 := Lib.hid ((B3.out.trans ((box_below w3 (.cells #[.int .i64 (k : Int)] 3)).mono B3.out.size)).drew.grown hgr (B3.out.trans ((box_below w3 (.cells #[.int .i64 (k : Int)] 3)).mono B3.out.size)).size (fun g e => Nat.le_trans BX.out.size (O3.out.lt g e).1)); have HP5 := Lib.hid (WRel.puts W5.out B5.out hPn HLF.out (own_base hown5 BX.out.size) HS4.out); obtain ⟨c5z, f5z⟩ := W5.out.cell hPn; have n2d := (World.cell?_of_block (a := ⟨wr.heap.size, 2, none⟩) (hgr.block wr.heap.size (by first | omega | (simp; omega) | exact Nat.lt_succ_of_lt (by omega)) (fun e => by have := (O3.out.lt _ e.symm).1; omega))).trans (by first | exact n2c | exact n2e _); clear hown5 hgr)
                    | (refine step_append_lies _ rfl (.tmp 75) (.tmp 77) 22 rfl wx.heap.size 3 j0 (.int .i64 0) 1 8 Tryz.underlying22 HJ.out HJ0.out HJ1.out HJ2.out rfl (by decide) (.slice A3 lf c3) lf (iv (F Fr)) (by simp [Act.eval, Act.put]) (show World.ownsRow w3 _ _ _ _ _ _ from O3.out) ⟨wx.heap.size, 0, none⟩ 1 1 [.int .i64 (k : Int)] (by simp [Act.eval, Act.put]) rfl (World.news_of_block (show w3.heap[wx.heap.size]? = _ from K3.out)) (fun u hu => by rw [List.mem_singleton] at hu; subst hu; rfl) (by decide) (by unfold maxLen; omega) (by omega) (by first | exact hs3 | (simp; omega)) _ rfl ?_; intro g5 c5 w5 hown5 hgr _ _; have W5 := Lib.hid (WO.grown2 (WX.out.below P3.out) WX.out (show World.ownsRow w3 _ _ _ _ _ _ from O3.out) (Nat.le_refl _) hgr); have B5 := Lib.hid (B3.out.grown hgr B3.out.size (fun g e => Nat.le_trans BX.out.size (O3.out.lt g e).1)); have HP5 := Lib.hid (WRel.puts W5.out B5.out hPn HLF.out (own_base hown5 BX.out.size) HS4.out); obtain ⟨c5z, f5z⟩ := W5.out.cell hPn; have n2d := (World.cell?_of_block (a := ⟨wr.heap.size, 2, none⟩) (hgr.block wr.heap.size (by first | omega | (simp; omega) | exact Nat.lt_succ_of_lt (by omega)) (fun e => by have := (O3.out.lt _ e.symm).1; omega))).trans (by first | exact n2c | exact n2e _); clear hown5 hgr)
                    | (refine step_append_lies _ rfl (.tmp 75) (.tmp 77) 22 rfl wx.heap.size 3 j0 (.int .i64 0) 1 8 Tryz.underlying22 HJ.out HJ0.out HJ1.out HJ2.out rfl (by decide) (.slice A3 lf c3) lf (iv (F Fr)) (by simp [Act.eval, Act.put]) (show World.ownsRow (World.drew w3) _ _ _ _ _ _ from O3.out) ⟨wx.heap.size, 0, none⟩ 1 1 [.int .i64 (k : Int)] (by simp [Act.eval, Act.put]) rfl (World.news_of_block (show (World.drew w3).heap[wx.heap.size]? = _ from K3.out)) (fun u hu => by rw [List.mem_singleton] at hu; subst hu; rfl) (by decide) (by unfold maxLen; omega) (by omega) (by first | exact hs3 | (simp; omega)) _ rfl ?_; intro g5 c5 w5 hown5 hgr _ _; have W5 := Lib.hid (WO.grown2 (WX.out.below P3.out).drew WX.out (show World.ownsRow (World.drew w3) _ _ _ _ _ _ from O3.out) (Nat.le_refl _) hgr); have B5 := Lib.hid (B3.out.drew.grown hgr B3.out.size (fun g e => Nat.le_trans BX.out.size (O3.out.lt g e).1)); have HP5 := Lib.hid (WRel.puts W5.out B5.out hPn HLF.out (own_base hown5 BX.out.size) HS4.out); obtain ⟨c5z, f5z⟩ := W5.out.cell hPn; have n2d := (World.cell?_of_block (a := ⟨wr.heap.size, 2, none⟩) (hgr.block wr.heap.size (by first | omega | (simp; omega) | exact Nat.lt_succ_of_lt (by omega)) (fun e => by have := (O3.out.lt _ e.symm).1; omega))).trans (by first | exact n2c | exact n2e _); clear hown5 hgr))
                  all_goals
                    go_wp2_with fail
                    exact ⟨⟨k + 1, by omega, by go_num, HP5.out⟩, by simp [intOf]; omega⟩
                · have d2' : ((lp : Int) == 0) = false := beq_eq_false_iff_ne.2 (by omega)
                  have HS4 := Lib.hid (fun q => (HS3.out q).trans (if_neg (fun (h : q = (P : Int) ∧ F Fr ≠ [] ∧ F q = []) => e2 (by rw [← HLP.out, ← h.1, h.2.2]; rfl))))
                  clear e1 e2
                  go_wp2_with fail
                  exact ⟨⟨k + 1, by omega, by go_num, WRel.same WX.out BX.out HS4.out⟩, by simp [intOf]; omega⟩
            · have d7 : (xk == 7) = false := beq_eq_false_iff_ne.2 h7
              have HS3 := Lib.hid (fun q => show wy a.e c t (k + 1) q = F q by rw [HS2.out]; unfold wst; simp [h5, h6, h7])
              clear h5 h6 h7
              go_wp2_with fail
              exact ⟨⟨k + 1, by omega, by go_num, WRel.same WX.out BX.out HS3.out⟩, by simp [intOf]; omega⟩
    · obtain rfl : k = a.e.length := by omega
      go_wp2_with fail
      go_ret
      exact ⟨_, hh, cc, rfl, HWO.out, HBL.out⟩

end Go.Proofs.YtgknfkmojhganaaGreat.Di

namespace Go.Proofs.YtgknfkmojhganaaGreat.Di
open Go.RowKit
open Go.Proofs.YtgknfkmojhganaaGreat.Tp
set_option linter.unusedVariables false

/-- Is a content in a place? -/
def wB (a : Es) (c t : Int) (p : Nat) : Bool := !(wyA a.e c t (p : Int)).isEmpty
theorem wB_pos {a : Es} {c t : Int} {p : Nat} (h : 0 < (wyA a.e c t (p : Int)).length) : wB a c t p = true := by
  unfold wB
  cases hw : wyA a.e c t (p : Int) with
  | nil => rw [hw] at h; simp at h
  | cons _ _ => rfl
theorem wB_zero {a : Es} {c t : Int} {p : Nat} (h : (wyA a.e c t (p : Int)).length = 0) : wB a c t p = false := by
  unfold wB
  rw [List.length_eq_zero_iff.1 h]
  rfl
theorem idx_t {q : Nat → Bool} {k : Nat} (h : q k = true) : idx q (k + 1) = idx q k ++ [k] := by rw [idx, if_pos h]
theorem idx_f {q : Nat → Bool} {k : Nat} (h : q k = false) : idx q (k + 1) = idx q k := by rw [idx, if_neg (by rw [h]; decide)]
theorem cnt_t {q : Nat → Bool} {k : Nat} (h : q k = true) : cnt q (k + 1) = cnt q k + 1 := by rw [← idx_len, ← idx_len, idx_t h, List.length_append]; rfl
theorem cnt_f {q : Nat → Bool} {k : Nat} (h : q k = false) : cnt q (k + 1) = cnt q k := by rw [← idx_len, ← idx_len, idx_f h]
set_option maxRecDepth 100000 in
set_option maxHeartbeats 400000 in
theorem content_yes {c : Int} (h : 0 ≤ c ∧ c < 64) (w : World) : Calls Tryz.prog 119 #[.int .i64 c] w fun e w' => e = .returned (.bool true) ∧ w' = w := by
  have d1 : decide ((0 : Int) ≤ c) = true := decide_eq_true h.1
  have d2 : decide (c < 64) = true := decide_eq_true h.2
  clear h
  go_enter Tryz.func119, Tryz.ntmps119
  go_wp2_with fail
  go_ret
  exact ⟨by first | rfl | simp, rfl⟩
set_option maxRecDepth 100000 in
set_option maxHeartbeats 400000 in
theorem exc_yes (a : Es) (v : Ve) (p : Int) (w : World) (h : EL w 0 a v) (he : exP a p) :
    Calls Tryz.prog 118 #[.agg (ge a v), .int .i64 p] w fun e w' => e = .returned (.bool true) ∧ Below w.heap.size w w' := by
  have HB0 := Lib.hid (box_below w (.cells (ge a v) 28))
  have HR0 := Lib.hid (heap_alloc_new w (.cells (ge a v) 28))
  obtain ⟨c0, c1⟩ := geCells HR0.out
  have hck := acheck_any a v _ (Row.below h HB0.out)
  rw [ck_ok he.1] at hck
  have HCK := Lib.hid hck
  have d1 : decide ((0 : Int) ≤ p) = true := decide_eq_true he.2.1
  have d2 : decide (p < a.n) = true := decide_eq_true he.2.2
  have HF := Lib.hid (show (#[.int .i64 a.n, .slice v.A a.e.length v.c] : Array Value) = ge a v from rfl)
  clear hck h he
  go_enter Tryz.func118, Tryz.ntmps118
  go_wp2_with (go_at_call 45; rw [HF.out]; refine HCK.out.mono ?_; rintro e w1 ⟨rfl, hb1⟩; have HB1 := Lib.hid (HB0.out.trans (hb1.mono HB0.out.size)); have M1 := Lib.hid ((hb1.block _ (row_lt HR0.out)).trans HR0.out); clear hb1 c0 c1; obtain ⟨c0, c1⟩ := geCells M1.out)
  go_ret
  exact ⟨by first | rfl | simp, HB1.out⟩
set_option maxRecDepth 100000 in
set_option maxHeartbeats 2000000 in
theorem where_any (a : Es) (v : Ve) (c t : Int) (n : Nat) (w : World) (h : EL w 0 a v) (hok : Eok a) (hn : a.n = (n : Int)) (hc : 0 ≤ c ∧ c < 64) :
    Calls Tryz.prog 115 #[.agg (ge a v), .int .i64 c, .int .i64 t] w (SmPost (wB a c t) n w) := by
  have hn16 := hok.n16
  have hn6 : n ≤ 16 := by omega
  have HB0 := Lib.hid (box_below w (.cells (ge a v) 28))
  have HR0 := Lib.hid (heap_alloc_new w (.cells (ge a v) 28))
  obtain ⟨c0, c1⟩ := geCells HR0.out
  have hck := acheck_any a v _ (Row.below h HB0.out)
  rw [ck_ok hok] at hck
  have HCK := Lib.hid hck
  have HWY := Lib.hid (fun w' (hb : Below w.heap.size w w') => ways_any a v c t n w' (Row.below h hb) hok hn)
  have HCY := Lib.hid (fun w' => content_yes hc w')
  have HF := Lib.hid (show (#[.int .i64 a.n, .slice v.A a.e.length v.c] : Array Value) = ge a v from rfl)
  have HWT := Lib.hid (fun p (hp : 0 < (wyA a.e c t ((p : Nat) : Int)).length) => wB_pos hp)
  have HWF := Lib.hid (fun p (hp : (wyA a.e c t ((p : Nat) : Int)).length = 0) => wB_zero hp)
  obtain ⟨i0, hi1, hz0, hz1, hz2⟩ := info_parts zinfo3
  have HI := Lib.hid hi1
  have HI0 := Lib.hid hz0
  have HI1 := Lib.hid hz1
  have HI2 := Lib.hid hz2
  clear hck h hok hc hn hi1 hz0 hz1 hz2
  go_enter Tryz.func115, Tryz.ntmps115
  go_wp2_with (first
    | (go_at_call 45; rw [HF.out]; refine HCK.out.mono ?_; rintro e w1 ⟨rfl, hb1⟩; have HB1 := Lib.hid (HB0.out.trans (hb1.mono HB0.out.size)); have M1 := Lib.hid ((hb1.block _ (row_lt HR0.out)).trans HR0.out); clear hb1 c0 c1; obtain ⟨c0, c1⟩ := geCells M1.out)
    | (go_at_call 119; (with_reducible refine (HCY.out _).mono ?_); rintro e wq ⟨rfl, rfl⟩)
    | (go_at_call 120; rw [HF.out]; refine (HWY.out _ HB1.out).mono ?_; rintro e w2 ⟨G, hh, cc, rfl, hwo, hb2⟩; have HWO := Lib.hid hwo; have HB2 := Lib.hid (HB1.out.trans (hb2.mono HB1.out.size)); clear hwo hb2 c0 c1))
  generalize hq : wB a c t = q at *
  clear hq
  go_loopw [7, 23] (fun ov ii wr => ∃ (k : Nat) (A' : Option Addr) (c' : Nat), k ≤ n ∧ ov = .slice A' (cnt q k) c' ∧ ii = .int .i64 (k : Int) ∧ wr.ownsRow w2.heap.size 3 1 (.slice A' (cnt q k) c') (cnt q k) (iv (idx q k)) ∧ Below w2.heap.size w2 wr) (fun _ ii _ => n - (intOf ii).toNat)
  case atStart => exact ⟨0, none, 0, by omega, rfl, rfl, own_nil _ _ _ _, Below.refl _ _⟩
  case round =>
    obtain ⟨k, A', c', hk, rfl, rfl, hown, hbl⟩ := hrel
    have HO := Lib.hid hown
    have HBL := Lib.hid hbl
    have hcn := cnt_le q k
    have hsz := hbl.size
    clear hown hbl
    by_cases hlt : k < n
    · have k0 : (0 : Int) ≤ (k : Int) := by omega
      have k1 : (k : Int) < (n : Int) := by omega
      obtain ⟨ck0, -⟩ := (HWO.out.below HBL.out).cell hlt
      obtain ⟨lf, hlf⟩ : ∃ lf, (wyA a.e c t (k : Int)).length = lf := ⟨_, rfl⟩
      replace ck0 : World.cell? _ _ = some (Value.slice (hh k) (wyA a.e c t (k : Int)).length (cc k)) := ck0
      rw [hlf] at ck0
      have HLF := Lib.hid hlf
      clear hlf
      by_cases hl : lf = 0
      · have hqk := HWF.out k (HLF.out.trans hl)
        have HX := Lib.hid (idx_f hqk)
        have HC := Lib.hid (cnt_f hqk)
        subst hl
        clear hqk
        go_wp2_with fail
        exact ⟨⟨k + 1, A', c', by omega, by rw [HC.out], by go_num, by rw [HC.out, HX.out]; exact HO.out, HBL.out⟩, by simp [intOf]; omega⟩
      · have hqk := HWT.out k (by rw [HLF.out]; omega)
        have HX := Lib.hid (idx_t hqk)
        have HC := Lib.hid (cnt_t hqk)
        have HIS := Lib.hid (iv_snoc (idx q k) k)
        have hl0 : 0 < lf := by omega
        clear hqk hl
        go_wp2_with (at_builtin; refine wpList_append_own _ rfl (.tmp 31) (.tmp 33) 22 rfl w2.heap.size 3 i0 (.int .i64 0) 1 8 Tryz.underlying22 HI.out HI0.out HI1.out HI2.out rfl (by decide) _ (cnt q k) (iv (idx q k)) rfl (HO.out.alloc _) ⟨wr.heap.size, 0, none⟩ 1 1 [.int .i64 (k : Int)] rfl rfl (World.news_of_block (heap_alloc_new wr _)) (by simp [Value.oneCell']) (by unfold maxLen; omega) (by omega) (by simp; omega) ?_; intro v' w6 hown6 hgr _; obtain ⟨A6, c6, rfl⟩ := own_form hown6; have O6 := Lib.hid hown6; have B6 := Lib.hid ((HBL.out.trans ((box_below _ _).mono HBL.out.size)).grown hgr (by simp; omega) (fun g e => (HO.out.lt g e).1)); clear hown6 hgr)
        exact ⟨⟨k + 1, A6, c6, by omega, by rw [HC.out], by go_num, by rw [HC.out, HX.out, HIS.out]; exact O6.out, B6.out⟩, by simp [intOf]; omega⟩
    · obtain rfl : k = n := by omega
      go_wp2_with fail
      go_ret
      exact ⟨A', c', by first | rfl | simp, own_base HO.out HB2.out.size, HB2.out.trans (HBL.out.mono HB2.out.size)⟩

end Go.Proofs.YtgknfkmojhganaaGreat.Di

namespace Go.Proofs.YtgknfkmojhganaaGreat.Di
open Go.RowKit
open Go.Proofs.YtgknfkmojhganaaGreat.Tp
set_option linter.unusedVariables false

def WaPost (a : Es) (c t : Int) (P : Nat) (w : World) (e : Ending) (w' : World) : Prop := ∃ A cc, e = .returned (.tuple #[.slice A (wyA a.e c t (P : Int)).length cc, .bool (wB a c t P)]) ∧ w'.ownsRow w.heap.size 3 1 (.slice A (wyA a.e c t (P : Int)).length cc) (wyA a.e c t (P : Int)).length (iv (wyA a.e c t (P : Int))) ∧ Below w.heap.size w w'
set_option maxRecDepth 100000 in
set_option maxHeartbeats 1000000 in
theorem way_any (a : Es) (v : Ve) (c t : Int) (P n : Nat) (w : World) (h : EL w 0 a v) (hok : Eok a) (hn : a.n = (n : Int)) (hP : P < n) (hc : 0 ≤ c ∧ c < 64) :
    Calls Tryz.prog 74 #[.agg (ge a v), .int .i64 c, .int .i64 (P : Int), .int .i64 t] w (WaPost a c t P w) := by
  have HB0 := Lib.hid (box_below w (.cells (ge a v) 28))
  have HR0 := Lib.hid (heap_alloc_new w (.cells (ge a v) 28))
  obtain ⟨c0, c1⟩ := geCells HR0.out
  have HCK := Lib.hid (exc_yes a v (P : Int) _ (Row.below h HB0.out) ⟨hok, by omega, by omega⟩)
  have HWY := Lib.hid (fun w' (hb : Below w.heap.size w w') => ways_any a v c t n w' (Row.below h hb) hok hn)
  have HCY := Lib.hid (fun w' => content_yes hc w')
  have HF := Lib.hid (show (#[.int .i64 a.n, .slice v.A a.e.length v.c] : Array Value) = ge a v from rfl)
  have HWT := Lib.hid (fun (hp : 0 < (wyA a.e c t (P : Int)).length) => (wB_pos hp : wB a c t P = true))
  have HWF := Lib.hid (fun (hp : (wyA a.e c t (P : Int)).length = 0) => (wB_zero hp : wB a c t P = false))
  have P0 : (0 : Int) ≤ (P : Int) := by omega
  have P1 : (P : Int) < (n : Int) := by omega
  clear h hok hn hc
  unfold WaPost
  generalize hL : wyA a.e c t (P : Int) = L at *
  generalize wB a c t P = q at *
  obtain ⟨lf, hlf⟩ : ∃ lf, L.length = lf := ⟨_, rfl⟩
  have HLF := Lib.hid hlf
  have HL := Lib.hid hL
  have hq : q = decide (0 < lf) := by
    by_cases e : lf = 0
    · rw [HWF.out (hlf.trans e), e]; rfl
    · rw [HWT.out (by omega), decide_eq_true (by omega)]
  rw [hlf]
  subst hq
  clear hlf hL HWT HWF
  go_enter Tryz.func74, Tryz.ntmps74
  go_wp2_with (first
    | (go_at_call 118; rw [HF.out]; refine HCK.out.mono ?_; rintro e w1 ⟨rfl, hb1⟩; have HB1 := Lib.hid (HB0.out.trans (hb1.mono HB0.out.size)); have M1 := Lib.hid ((hb1.block _ (row_lt HR0.out)).trans HR0.out); clear hb1 c0 c1; obtain ⟨c0, c1⟩ := geCells M1.out)
    | (go_at_call 119; (with_reducible refine (HCY.out _).mono ?_); rintro e wq ⟨rfl, rfl⟩)
    | (go_at_call 120; rw [HF.out]; refine (HWY.out _ HB1.out).mono ?_; rintro e w2 ⟨G, hh, cc, rfl, hwo, hb2⟩; have B2 := Lib.hid (HB1.out.trans (hb2.mono HB1.out.size)); have cz := (hwo.cell hP).1; replace cz : World.cell? _ _ = some (Value.slice (hh P) (wyA a.e c t (P : Int)).length (cc P)) := cz; have hro := hwo.row P hP; replace hro : World.ownsRow _ _ _ _ (Value.slice (hh P) (wyA a.e c t (P : Int)).length (cc P)) (wyA a.e c t (P : Int)).length (iv (wyA a.e c t (P : Int))) := hro; rw [HL.out, HLF.out] at cz hro; have RO := Lib.hid (own_base hro HB1.out.size); clear hwo hb2 c0 c1 hro))
  go_ret2
  exact ⟨hh P, cc P, by first | rfl | simp, RO.out, B2.out⟩

end Go.Proofs.YtgknfkmojhganaaGreat.Di
