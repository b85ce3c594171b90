import Derived.Test.YtahggnlmabdbbaaDoorTape
import Derived.Test.YtahggnlmabdbbaaDoorDiAny
import Derived.Test.YtahggnlmabdbbaaDoorDiMath
import Derived.Laws.AppendOwnNone
import Derived.Maps.AppendAt
import Derived.Deep.AppendLies
import Derived.OwnWalk
import Derived.Below
import Derived.RegionTactic
import Derived.Laws.Rows
import Derived.Laws.Tables
import Derived.Laws.ResultCell
import Derived.Laws.OwnMore
import Derived.Laws.CopyOwn
import Derived.WalkKit
import Derived.Lib.Hide
import Derived.WalkSpells
import Derived.WalkLawsBesides
import Derived.Deep.QuietTactic
import Derived.BigQuiet
import Derived.IntWalk
import Derived.Deep.RegionHeld3
namespace Go.Proofs.YtahggnlmabdbbaaDoor.Di
open Go.RowKit
open Go.Proofs.YtahggnlmabdbbaaDoor.Tp
set_option linter.unusedVariables false

theorem row_lt {w : World} {g : Nat} {o : Obj} (h : w.heap[g]? = some o) : g < w.heap.size := (Array.getElem?_eq_some_iff.1 h).1

theorem box_below (w : World) (o : Obj) : Below w.heap.size w (w.alloc o) := (Below.refl _ _).alloc (Nat.le_refl _) _

/-- Cells as they lie in memory, s of them to an element, not below block B. -/
structure Row (w : World) (B s : Nat) (A : Option Addr) (n : Nat) (xs : List Value) : Prop where
  len : xs.length = n * s
  mem : 0 < n → ∃ b off, A = some ⟨b, off, none⟩ ∧ B ≤ b ∧ b < w.heap.size ∧ ∀ j u, xs[j]? = some u → w.cell? ⟨b, off + j, none⟩ = some u

theorem Row.below {w w' : World} {B s n : Nat} {A : Option Addr} {xs : List Value} (h : Row w B s A n xs) (hb : Below w.heap.size w w') : Row w' B s A n xs :=
  ⟨h.len, fun hn => by
    obtain ⟨b, off, e, hB, hlt, hc⟩ := h.mem hn
    exact ⟨b, off, e, hB, Nat.lt_of_lt_of_le hlt hb.size, fun j u hj => (hb.cell (p := ⟨b, off + j, none⟩) hlt).trans (hc j u hj)⟩⟩

theorem Row.base {w : World} {B B' s n : Nat} {A : Option Addr} {xs : List Value} (h : Row w B s A n xs) (hb : B' ≤ B) : Row w B' s A n xs :=
  ⟨h.len, fun hn => by
    obtain ⟨b, off, e, hB, hlt, hc⟩ := h.mem hn
    exact ⟨b, off, e, Nat.le_trans hb hB, hlt, hc⟩⟩

theorem Row.grown {w w' : World} {B s n : Nat} {A : Option Addr} {xs : List Value} {row : Option Nat} (h : Row w B s A n xs) (hg : w.grownBy w' row) (hr : ∀ g, row = some g → g < B) : Row w' B s A n xs :=
  ⟨h.len, fun hn => by
    obtain ⟨b, off, e, hB, hlt, hc⟩ := h.mem hn
    refine ⟨b, off, e, hB, Nat.lt_of_lt_of_le hlt hg.size, fun j u hj => ?_⟩
    exact (World.cell?_of_block (w := w) (a := ⟨b, off + j, none⟩) (hg.block b hlt (fun e => by have := hr b e.symm; omega))).trans (hc j u hj)⟩

theorem own_row {w : World} {base e s n : Nat} {v : Value} {xs : List Value} (h : w.ownsRow base e s v n xs) (hl : xs.length = n * s) : ∃ A c, v = .slice A n c ∧ Row w base s A n xs := by
  have h' := h
  rcases h.2 with ⟨rfl, e⟩ | ⟨g, cap, cur, rfl, hg, hh, hnc, hcm, _⟩
  · exact ⟨none, 0, by rw [e], hl, fun h0 => absurd h0 (by omega)⟩
  · refine ⟨_, _, rfl, hl, fun h0 => ⟨g, 0, rfl, hg, row_lt hh, fun j u hj => ?_⟩⟩
    rw [Nat.zero_add, h'.cellAt j (by have := (List.getElem?_eq_some_iff.1 hj).1; omega)]
    exact hj

/-- Numbers and replicas as cells. -/
def iv (l : List Nat) : List Value := l.map fun x : Nat => Value.int .i64 (x : Int)

theorem iv_len (l : List Nat) : (iv l).length = l.length * 1 := by simp [iv]

theorem iv_at (l : List Nat) (i : Nat) (h : i < l.length) : (iv l)[i]? = some (.int .i64 ((l.getD i 0 : Nat) : Int)) := by
  simp [iv, List.getD_eq_getElem?_getD, h]

theorem iv_one (l : List Nat) : ∀ u ∈ iv l, u.oneCell' = true := by
  intro u hu
  obtain ⟨x, _, rfl⟩ := List.mem_map.1 hu
  rfl

theorem iv_snoc (l : List Nat) (x : Nat) : iv (l ++ [x]) = iv l ++ [.int .i64 (x : Int)] := by simp [iv]

theorem Row.int {w : World} {B n : Nat} {A : Option Addr} {l : List Nat} (h : Row w B 1 A n (iv l)) {i : Nat} (hi : i < n) : ∃ b off, A = some ⟨b, off, none⟩ ∧ B ≤ b ∧ b < w.heap.size ∧ w.cell? ⟨b, off + i, none⟩ = some (.int .i64 ((l.getD i 0 : Nat) : Int)) := by
  obtain ⟨b, off, e, hB, hlt, hc⟩ := h.mem (by omega)
  have hl := h.len
  rw [iv_len] at hl
  exact ⟨b, off, e, hB, hlt, hc i _ (iv_at l i (by omega))⟩

theorem tape_kept {w w' : World} {T : Nat} {row : Option Nat} (h : TapeOk w T) (hg : w.grownBy w' row) (hr : ∀ g, row = some g → T < g) : TapeOk w' T := by
  obtain ⟨A, n, c, z, p, hT, hmax, hp, hmem⟩ := h
  have hlt : T < w.heap.size := row_lt hT
  refine ⟨A, n, c, z, p, (hg.block T hlt (fun e => by have := hr T e.symm; omega)).trans hT, hmax, hp, fun hn => ?_⟩
  obtain ⟨b, off, rfl, hb, hc⟩ := hmem hn
  refine ⟨b, off, rfl, hb, fun j hj => ?_⟩
  exact (World.cell?_of_block (w := w) (hg.block b (by omega) (fun e => by have := hr b e.symm; omega))).trans (hc j hj)

theorem tape_below {w w' : World} {T : Nat} (h : TapeOk w T) (hb : Below w.heap.size w w') : TapeOk w' T := tape_kept (row := none) h ⟨hb.os, hb.tape, hb.output, hb.size, fun k hk _ => hb.block k hk⟩ (by simp)

theorem set_new (W : World) (cs : Array Value) (t : TypeId) (i : Nat) (E : Value) : (W.alloc (.cells cs t)).setCell ⟨W.heap.size, i, none⟩ E = W.alloc (.cells (cs.setIfInBounds i E) t) := by
  have key : ∀ (f : Obj → Obj) (o : Obj), (W.heap.push o).modify W.heap.size f = W.heap.push (f o) := fun f o => by
    apply Array.ext
    · simp
    · intro i h1 h2
      rw [Array.getElem_modify, Array.getElem_push, Array.getElem_push]
      by_cases hi : i < W.heap.size
      · rw [dif_pos hi, dif_pos hi, if_neg (by omega)]
      · rw [dif_neg hi, dif_neg hi, if_pos (by simp at h1; omega)]
  show ({ W with heap := (W.heap.push _).modify W.heap.size _ } : World) = ({ W with heap := W.heap.push _ } : World)
  rw [key]
  rfl

section
variable {P : Program}
/-- What an append of a row that lies in memory to a row of the call's own does. -/
theorem app_run (w : World) (base B : Nat) (t ty e : TypeId) (i : TypeInfo) (z : Value) (size bytes : Nat) (ht : P.underlying t = some (.slice e)) (hi : P.info? e = some i) (hz : i.zero = some z) (hs : i.size = size) (hb : i.bytes = bytes) (hzs : z.cells.size = size) (hpos : 0 < size)
    (v : Value) (n : Nat) (xs : List Value) (hown : w.ownsRow base e size v n xs) (A : Option Addr) (m c : Nat) (ys : List Value) (hr : Row w B size A m ys) (h1 : ∀ u ∈ ys, u.oneCell' = true) (hl : n + m ≤ 100000) (hby : bytes ≤ 1000) (hbase : base ≤ w.heap.size) :
    ∃ v' w', (Builtin.append_ #[t, t] ty #[v, .slice A m c]).run P w = .ok v' w' ∧ w'.ownsRow base e size v' (n + m) (xs ++ ys) ∧ w.grownBy w' v.ownBlock ∧ (v'.ownBlock = v.ownBlock ∨ v'.ownBlock = some w.heap.size) := by
  have hmul : (n + m) * bytes ≤ 100000 * 1000 := Nat.mul_le_mul hl hby
  have hnil : m = 0 → ys = [] := fun e => List.eq_nil_of_length_eq_zero (by rw [hr.len, e, Nat.zero_mul])
  cases A with
  | none =>
    have hm : m = 0 := by
      by_cases h0 : m = 0
      · exact h0
      · obtain ⟨b, off, e, _⟩ := hr.mem (by omega)
        cases e
    subst hm
    rw [hnil rfl, List.append_nil]
    refine ⟨v, w, ?_, hown, World.grownBy.refl w _, .inl rfl⟩
    rcases hown.2 with ⟨rfl, rfl⟩ | ⟨g, cap, cur, rfl, _, _, hnc, _⟩
    · simp [Builtin.append_, run_underlying ht, sizeOf, typeInfo, hi, Builtin.lenOf, Builtin.firstCells]
    · simp [Builtin.append_, run_underlying ht, sizeOf, typeInfo, hi, Builtin.lenOf, Builtin.firstCells, hnc, storeCells]
  | some ad =>
    have hc : ∀ j u, ys[j]? = some u → w.cell? (ad.add j) = some u := by
      intro j u hu
      by_cases h0 : m = 0
      · rw [hnil h0] at hu
        simp at hu
      · obtain ⟨b, off, e, _, _, hc⟩ := hr.mem (by omega)
        cases e
        have := hc j u hu
        have ea : (⟨b, off, none⟩ : Addr).add j = ⟨b, off + j, none⟩ := by unfold Addr.add; split <;> simp_all
        rwa [ea]
    obtain ⟨v', w', h2, h3, h4, _, h5⟩ := run_append_own_at (P := P) w base t ty e i z size bytes ht hi hz hs hb hzs hpos v n xs hown ad m c ys hr.len hc h1 (by unfold maxLen; omega) (by omega) hbase
    exact ⟨v', w', h2, h3, h4, h5⟩

theorem app_wp {o : Oper} {a : Act} {w : World} {K : Act → World → Prop} {Q : Exit → Act → World → Prop} (s x : Operand) (base B : Nat) (t e : TypeId) (ho : o.op = .call { callee := .builtin .append, args := #[s, x], argTypes := #[t, t] }) (i : TypeInfo) (z : Value) (size bytes : Nat) (ht : P.underlying t = some (.slice e)) (hi : P.info? e = some i) (hz : i.zero = some z) (hs : i.size = size) (hb : i.bytes = bytes) (hzs : z.cells.size = size) (hpos : 0 < size)
    (v : Value) (n : Nat) (xs : List Value) (hv : a.eval s = v) (hown : w.ownsRow base e size v n xs) (A : Option Addr) (m c : Nat) (ys : List Value) (hx : a.eval x = .slice A m c) (hr : Row w B size A m ys) (h1 : ∀ u ∈ ys, u.oneCell' = true) (hl : n + m ≤ 100000) (hby : bytes ≤ 1000) (hbase : base ≤ w.heap.size)
    (h : ∀ v' w', w'.ownsRow base e size v' (n + m) (xs ++ ys) → w.grownBy w' v.ownBlock → (v'.ownBlock = v.ownBlock ∨ v'.ownBlock = some w.heap.size) → K (a.put o.dst v') w') : o.wp P a w K Q := by
  obtain ⟨v', w', h2, h3, h4, h5⟩ := app_run (P := P) w base B t o.type e i z size bytes ht hi hz hs hb hzs hpos v n xs hown A m c ys hr h1 hl hby hbase
  unfold Oper.wp execOp
  simp only [ho, resolve, invoke, builtin, Sem.run_bind, Sem.run_pure, Result.andThen_ok, List.map_toArray, List.map_cons, List.map_nil, hv, hx, h2]
  exact h v' w' h3 h4 h5

theorem app_list {ops : Array Oper} {rest : List Oper} {o : Oper} {a : Act} {w : World} {Q : Exit → Act → World → Prop} (hgd : o.guard = none) (s x : Operand) (base B : Nat) (t e : TypeId) (ho : o.op = .call { callee := .builtin .append, args := #[s, x], argTypes := #[t, t] }) (i : TypeInfo) (z : Value) (size bytes : Nat) (ht : P.underlying t = some (.slice e)) (hi : P.info? e = some i) (hz : i.zero = some z) (hs : i.size = size) (hb : i.bytes = bytes) (hzs : z.cells.size = size) (hpos : 0 < size)
    (v : Value) (n : Nat) (xs : List Value) (hv : a.eval s = v) (hown : w.ownsRow base e size v n xs) (A : Option Addr) (m c : Nat) (ys : List Value) (hx : a.eval x = .slice A m c) (hr : Row w B size A m ys) (h1 : ∀ u ∈ ys, u.oneCell' = true) (hl : n + m ≤ 100000) (hby : bytes ≤ 1000) (hbase : base ≤ w.heap.size)
    (h : ∀ v' w', w'.ownsRow base e size v' (n + m) (xs ++ ys) → w.grownBy w' v.ownBlock → (v'.ownBlock = v.ownBlock ∨ v'.ownBlock = some w.heap.size) → wpList P ops Q rest (a.put o.dst v') w') : wpList P ops Q (o :: rest) a w :=
  wpList_plain hgd fun _ hK => app_wp s x base B t e ho i z size bytes ht hi hz hs hb hzs hpos v n xs hv hown A m c ys hx hr h1 hl hby hbase fun v' w' h2 h3 h4 => hK _ _ (h v' w' h2 h3 h4)

theorem app_step {ops : Array Oper} {o : Oper} {a : Act} {w : World} {K : Act → World → Prop} {Q : Exit → Act → World → Prop} {E : Prop} (hgd : o.guard = none) (s x : Operand) (base B : Nat) (t e : TypeId) (ho : o.op = .call { callee := .builtin .append, args := #[s, x], argTypes := #[t, t] }) (i : TypeInfo) (z : Value) (size bytes : Nat) (ht : P.underlying t = some (.slice e)) (hi : P.info? e = some i) (hz : i.zero = some z) (hs : i.size = size) (hb : i.bytes = bytes) (hzs : z.cells.size = size) (hpos : 0 < size)
    (v : Value) (n : Nat) (xs : List Value) (hv : a.eval s = v) (hown : w.ownsRow base e size v n xs) (A : Option Addr) (m c : Nat) (ys : List Value) (hx : a.eval x = .slice A m c) (hr : Row w B size A m ys) (h1 : ∀ u ∈ ys, u.oneCell' = true) (hl : n + m ≤ 100000) (hby : bytes ≤ 1000) (hbase : base ≤ w.heap.size)
    (h : ∀ v' w', w'.ownsRow base e size v' (n + m) (xs ++ ys) → w.grownBy w' v.ownBlock → (v'.ownBlock = v.ownBlock ∨ v'.ownBlock = some w.heap.size) → K (a.put o.dst v') w') : if Region.wanted o (yielded ops a.tmps) = true then Oper.wp P o a w K Q else E := by
  have hw : Region.wanted o (yielded ops a.tmps) = true := by simp [Region.wanted, hgd]
  rw [if_pos hw]
  exact app_wp s x base B t e ho i z size bytes ht hi hz hs hb hzs hpos v n xs hv hown A m c ys hx hr h1 hl hby hbase h
end

theorem info_parts {P : Program} {t : TypeId} {z : Value} {s b : Nat} (h : (P.info? t).map (fun i => (i.zero, i.size, i.bytes)) = some (some z, s, b)) : ∃ i, P.info? t = some i ∧ i.zero = some z ∧ i.size = s ∧ i.bytes = b := by
  cases hi : P.info? t with
  | none => rw [hi] at h; cases h
  | some i =>
    rw [hi] at h
    simp at h
    exact ⟨i, rfl, h.1, h.2.1, h.2.2⟩

theorem gb_of_below {w w' : World} (hb : Below w.heap.size w w') : w.grownBy w' none := ⟨hb.os, hb.tape, hb.output, hb.size, fun k hk _ => hb.block k hk⟩

theorem own_below {w w' : World} {base e s n : Nat} {v : Value} {xs : List Value} (h : w.ownsRow base e s v n xs) (hb : Below w.heap.size w w') : w'.ownsRow base e s v n xs :=
  h.kept (row := none) (gb_of_below hb) (by cases hv : v.ownBlock <;> simp)

theorem own_base {w : World} {base base' e s n : Nat} {v : Value} {xs : List Value} (h : w.ownsRow base e s v n xs) (hb : base' ≤ base) : w.ownsRow base' e s v n xs := by
  refine ⟨h.1, ?_⟩
  rcases h.2 with h2 | ⟨g, cap, cur, h1, h2, h3⟩
  · exact .inl h2
  · exact .inr ⟨g, cap, cur, h1, Nat.le_trans hb h2, h3⟩

theorem gb_setRow (w : World) (g : Nat) (cs : Array Value) : w.grownBy (w.setRow g cs) (some g) :=
  ⟨rfl, rfl, rfl, by rw [setRow_size]; exact Nat.le_refl _, fun k _ hk => setRow_other _ _ _ _ (fun e => hk (by rw [e]))⟩

theorem own_set {w : World} {base e s n g : Nat} {v : Value} {xs : List Value} (h : w.ownsRow base e s v n xs) (hg : g < base) (cs : Array Value) : (w.setRow g cs).ownsRow base e s v n xs :=
  h.kept (gb_setRow w g cs) (by
    cases hv : v.ownBlock with
    | none => exact .inl rfl
    | some k => exact .inr (fun e => by have := (h.lt k hv).1; injection e; omega))

theorem row_of_own {w : World} {B e s n c : Nat} {A : Option Addr} {xs : List Value} (h : w.ownsRow B e s (.slice A n c) n xs) : Row w B s A n xs := by
  obtain ⟨A', c', e, hr⟩ := own_row h h.1
  cases e
  exact hr

theorem own_nil (w : World) (base e s : Nat) : w.ownsRow base e s (.slice none 0 0) 0 [] := ⟨by simp, .inl ⟨rfl, rfl⟩⟩

theorem below_setRow {B g : Nat} {a b : World} (h : Below B a b) (hg : B ≤ g) (cs : Array Value) : Below B a (b.setRow g cs) :=
  ⟨h.os, h.tape, h.output, by rw [setRow_size]; exact h.size, fun k hk => (setRow_other _ _ _ _ (by omega)).trans (h.block k hk)⟩

theorem Row.set {w : World} {B s n g : Nat} {A : Option Addr} {xs : List Value} (h : Row w B s A n xs) (hg : g < B) (cs : Array Value) : Row (w.setRow g cs) B s A n xs :=
  ⟨h.len, fun hn => by
    obtain ⟨b, off, e, hB, hlt, hc⟩ := h.mem hn
    exact ⟨b, off, e, hB, by rw [setRow_size]; exact hlt, fun j u hj => (cell_setRow_other _ _ _ _ (by show b ≠ g; omega)).trans (hc j u hj)⟩⟩

theorem results_cell_row2 {P : Program} {fn : Func} {p u : Tmp} {ty : TypeId} (h : fn.results = #[.cell p ty, .tmp u]) (tmps : Array Value) (w : World) (g : Nat) (t : TypeId) (cs : Array Value) (fr : Nat × Nat) (d : TypeDesc)
    (hp : tmps.getD p undef = .pointer (some ⟨g, 0, none⟩)) (hg : w.heap[g]? = some (.cells cs t fr))
    (hu : P.underlying ty = some d) (hd : (match d with | .struct _ | .array _ _ => true | _ => false) = true) (hi : (P.info? ty).map (·.size) = some cs.size) :
    (results fn tmps).run P w = .ok (.tuple #[.agg cs, tmps.getD u undef]) w := by
  rw [results_cell_tmp h, hp]
  simp [asAddr, run_loadVar_row w g t ty cs fr d hg hu hd hi]

/-- The three boxes of a call of Apply. -/
theorem boxes3 (w : World) (X Y Z : Obj) : ((w.alloc X).alloc Y).alloc Z = ((w.alloc X).alloc Y).alloc Z ∧ (((w.alloc X).alloc Y).alloc Z).heap[w.heap.size]? = some X ∧ (((w.alloc X).alloc Y).alloc Z).heap[w.heap.size + 1]? = some Y ∧ (((w.alloc X).alloc Y).alloc Z).heap[w.heap.size + 2]? = some Z ∧ Below w.heap.size w (((w.alloc X).alloc Y).alloc Z) := by
  have a1 := heap_alloc_new w X
  have a2 := heap_alloc_new (w.alloc X) Y
  have a3 := heap_alloc_new ((w.alloc X).alloc Y) Z
  have z1 : (w.alloc X).heap.size = w.heap.size + 1 := by simp
  have z2 : ((w.alloc X).alloc Y).heap.size = w.heap.size + 2 := by simp
  rw [z1] at a2
  rw [z2] at a3
  refine ⟨rfl, (heap_alloc_old _ _ (by simp; omega)).trans ((heap_alloc_old _ _ (by simp)).trans a1), (heap_alloc_old _ _ (by simp)).trans a2, a3, ?_⟩
  exact ((box_below w X).trans ((box_below _ Y).mono (by simp))).trans ((box_below _ Z).mono (by simp; omega))

theorem new_row (w : World) (o cs : Array Value) (t : TypeId) : Below w.heap.size w ((w.alloc (.cells o t)).setRow w.heap.size cs) ∧ ((w.alloc (.cells o t)).setRow w.heap.size cs).heap[w.heap.size]? = some (.cells cs t (0, 0)) ∧ w.heap.size + 1 ≤ ((w.alloc (.cells o t)).setRow w.heap.size cs).heap.size :=
  ⟨below_setRow (box_below w _) (Nat.le_refl _) _, setRow_heap _ _ _ _ _ _ (heap_alloc_new _ _), by simp⟩

theorem own_form {w : World} {B e s n : Nat} {v : Value} {xs : List Value} (h : w.ownsRow B e s v n xs) : ∃ A c, v = .slice A n c := by
  obtain ⟨A, c, e, _⟩ := own_row h h.1
  exact ⟨A, c, e⟩

theorem own_ne {w : World} {B e s n e' s' n' B' : Nat} {v v' : Value} {xs xs' : List Value} (h : w.ownsRow B e s v n xs) (h' : w.ownsRow B' e' s' v' n' xs') (hne : e ≠ e') (g : Nat) (hg : v.ownBlock = some g) : v'.ownBlock ≠ some g := by
  intro hg'
  rcases h.2 with ⟨rfl, _⟩ | ⟨k, cap, cur, rfl, _, hh, _⟩
  · cases hg
  · rcases h'.2 with ⟨rfl, _⟩ | ⟨k', cap', cur', rfl, _, hh', _⟩
    · cases hg'
    · cases hg
      cases hg'
      rw [hh] at hh'
      injection hh' with q
      injection q with _ q2
      exact hne q2

theorem kept_ne {w w' : World} {B e s n : Nat} {v : Value} {xs : List Value} {row : Option Nat} (h : w.ownsRow B e s v n xs) (hg : w.grownBy w' row) (hne : ∀ g, row = some g → v.ownBlock ≠ some g) : w'.ownsRow B e s v n xs :=
  h.kept hg (by
    cases hv : v.ownBlock with
    | none => exact .inl rfl
    | some k => exact .inr (fun e => hne k e.symm hv))

theorem own_head {w : World} {B e s n c : Nat} {A : Option Addr} {xs : List Value} (h : w.ownsRow B e s (.slice A n c) n xs) (hn : 0 < n) : ∃ g, A = some ⟨g, 0, none⟩ ∧ B ≤ g ∧ g < w.heap.size := by
  rcases h.2 with ⟨e, h0⟩ | ⟨g, cap, cur, e, hb, hh, _⟩
  · omega
  · cases e
    exact ⟨g, rfl, hb, row_lt hh⟩

theorem gb_below {w W W' : World} {g : Nat} (hb : Below w.heap.size w W) (hg : W.grownBy W' (some g)) (h : w.heap.size ≤ g) : Below w.heap.size w W' := hb.grown hg hb.size (fun k e => by cases e; exact h)

theorem new_one (W : World) (x : Value) (t : TypeId) : Row (W.alloc (.cells #[x] t)) 0 1 (some ⟨W.heap.size, 0, none⟩) 1 [x] :=
  ⟨rfl, fun _ => ⟨W.heap.size, 0, rfl, Nat.zero_le _, by simp, fun j u hj => by
    have := cell_one_new W x t j u hj
    have ea : (⟨W.heap.size, 0, none⟩ : Addr).add j = ⟨W.heap.size, 0 + j, none⟩ := by unfold Addr.add; split <;> simp_all
    rwa [ea] at this⟩⟩

theorem Row.drew {w : World} {B s n : Nat} {A : Option Addr} {xs : List Value} (h : Row w B s A n xs) : Row w.drew B s A n xs := ⟨h.len, h.mem⟩

theorem gb_undrew {w w' : World} {row : Option Nat} (h : w.drew.grownBy w' row) : w.grownBy w' row := ⟨h.os, h.tape, h.output, h.size, h.block⟩

/-- Blocks that lie below an owned row stay. -/
theorem far_block {W w6 : World} {B n : Nat} {e s : Nat} {v : Value} {xs : List Value} {o : Obj} (h : W.ownsRow B e s v n xs) (hgr : (W.alloc o).grownBy w6 v.ownBlock) (k : Nat) (hk : k < B) (hlt : k < W.heap.size) : w6.heap[k]? = W.heap[k]? :=
  (hgr.block k (by simp; omega) (fun e => by have := (h.lt k e.symm).1; omega)).trans (heap_alloc_old _ _ hlt)

theorem far_below {w W w6 : World} {B n : Nat} {e s : Nat} {v : Value} {xs : List Value} {o : Obj} (hb : Below w.heap.size w W) (h : W.ownsRow B e s v n xs) (hgr : (W.alloc o).grownBy w6 v.ownBlock) (hB : w.heap.size ≤ B) : Below w.heap.size w w6 :=
  (hb.trans ((box_below W o).mono hb.size)).grown hgr (by have := hb.size; simp; omega) (fun g e => by have := (h.lt g e).1; omega)

theorem tape_new2 {w : World} {T : Nat} (h : TapeOk w T) (o : Obj) : TapeOk (w.alloc o) T := tape_below h (box_below w o)

theorem lits_row (W : World) (G : Nat) (hG : W.heap.size = G) (l : List Nat) (cs : Array Value) (h : cs.toList = iv l) (t : TypeId) : Row (W.alloc (.cells cs t)) G 1 (some ⟨G, 0, none⟩) l.length (iv l) := by
  subst hG
  refine ⟨iv_len l, fun _ => ⟨W.heap.size, 0, rfl, Nat.le_refl _, by simp, fun j u hj => ?_⟩⟩
  rw [Nat.zero_add, cell_of_row _ _ _ _ _ _ (heap_alloc_new W (.cells cs t))]
  rw [← h] at hj
  simpa using hj

theorem set_far {W : World} {g G k i : Nat} {u : Value} {x : Option Value} (h : W.cell? ⟨g, k, none⟩ = x) (hne : g ≠ G) : (W.setCell ⟨G, i, none⟩ u).cell? ⟨g, k, none⟩ = x :=
  (World.cell?_setCell_other _ _ _ _ (fun e => hne (by injection e with e1; exact e1.symm))).trans h

theorem gb_far {a b : World} {T g : Nat} (h : a.grownBy b (some T)) (hg : a.heap.size ≤ g) (cs : Array Value) : a.grownBy (b.setRow g cs) (some T) :=
  ⟨h.os, h.tape, h.output, by rw [setRow_size]; exact h.size, fun k hk hne => (setRow_other _ _ _ _ (by omega)).trans (h.block k hk hne)⟩

theorem tape_set {w : World} {T g : Nat} (h : TapeOk w T) (hg : T < g) (cs : Array Value) : TapeOk (w.setRow g cs) T :=
  tape_kept h (gb_setRow w g cs) (fun k e => by cases e; exact hg)

theorem gb_far1 {a b : World} {T g i : Nat} {u : Value} (h : a.grownBy b (some T)) (hg : a.heap.size ≤ g) : a.grownBy (b.setCell ⟨g, i, none⟩ u) (some T) :=
  ⟨h.os, h.tape, h.output, by have := h.size; simpa [World.setCell] using this, fun k hk hne => (Below.heap_setCell _ _ _ _ (by show k ≠ g; omega)).trans (h.block k hk hne)⟩

theorem tape_far1 {w : World} {T g i : Nat} {u : Value} (h : TapeOk w T) (hg : T < g) : TapeOk (w.setCell ⟨g, i, none⟩ u) T :=
  tape_kept h (gb_set w g i u) (fun k e => by cases e; exact hg)

theorem gb_alloc2 {a b : World} {T : Nat} (h : a.grownBy b (some T)) (o : Obj) : a.grownBy (b.alloc o) (some T) := gb_trans h (gb_row (gb_of_below (box_below b o)))

theorem new_set (W : World) (o cs : Array Value) (t : TypeId) : (W.alloc (.cells o t)).setRow W.heap.size cs = W.alloc (.cells cs t) := by
  have key : ∀ (f : Obj → Obj) (o : Obj), (W.heap.push o).modify W.heap.size f = W.heap.push (f o) := fun f o => by
    apply Array.ext
    · simp
    · intro i h1 h2
      rw [Array.getElem_modify, Array.getElem_push, Array.getElem_push]
      by_cases hi : i < W.heap.size
      · rw [dif_pos hi, dif_pos hi, if_neg (by omega)]
      · rw [dif_neg hi, dif_neg hi, if_pos (by simp at h1; omega)]
  show ({ W with heap := (W.heap.push _).modify W.heap.size _ } : World) = ({ W with heap := W.heap.push _ } : World)
  rw [key]

theorem Row.setq {w : World} {B s n g : Nat} {A : Option Addr} {xs : List Value} (h : Row w B s A n xs) (hg : ∀ b off, 0 < n → A = some ⟨b, off, none⟩ → b ≠ g) (cs : Array Value) : Row (w.setRow g cs) B s A n xs :=
  ⟨h.len, fun hn => by
    obtain ⟨b, off, e, hB, hlt, hc⟩ := h.mem hn
    exact ⟨b, off, e, hB, by rw [setRow_size]; exact hlt, fun j u hj => (cell_setRow_other _ _ _ _ (hg b off hn e)).trans (hc j u hj)⟩⟩

theorem results_cell_row3 {P : Program} {fn : Func} {p u u2 : Tmp} {ty : TypeId} (h : fn.results = #[.cell p ty, .tmp u, .tmp u2]) (tmps : Array Value) (w : World) (g : Nat) (t : TypeId) (cs : Array Value) (fr : Nat × Nat) (d : TypeDesc)
    (hp : tmps.getD p undef = .pointer (some ⟨g, 0, none⟩)) (hg : w.heap[g]? = some (.cells cs t fr))
    (hu : P.underlying ty = some d) (hd : (match d with | .struct _ | .array _ _ => true | _ => false) = true) (hi : (P.info? ty).map (·.size) = some cs.size) :
    (results fn tmps).run P w = .ok (.tuple #[.agg cs, tmps.getD u undef, tmps.getD u2 undef]) w := by
  have hp' : tmps[p]?.getD undef = .pointer (some ⟨g, 0, none⟩) := by simpa using hp
  simp [results, h, hp', asAddr, run_loadVar_row w g t ty cs fr d hg hu hd hi]

theorem Row.keep {W w6 : World} {B s n : Nat} {A : Option Addr} {xs : List Value} {row : Option Nat} (h : Row W B s A n xs) (hg : W.grownBy w6 row) (hn : ∀ g, row = some g → ∀ b off, 0 < n → A = some ⟨b, off, none⟩ → b ≠ g) : Row w6 B s A n xs :=
  ⟨h.len, fun h0 => by
    obtain ⟨b, off, e, hB, hlt, hc⟩ := h.mem h0
    refine ⟨b, off, e, hB, Nat.lt_of_lt_of_le hlt hg.size, fun j u hj => ?_⟩
    exact (World.cell?_of_block (w := W) (a := ⟨b, off + j, none⟩) (hg.block b hlt (fun e2 => hn b e2.symm b off h0 e rfl))).trans (hc j u hj)⟩

theorem gb_own {a b c : World} {T : Nat} {row : Option Nat} (h : a.grownBy b (some T)) (k : b.grownBy c row) (hr : ∀ g, row = some g → a.heap.size ≤ g) : a.grownBy c (some T) :=
  ⟨k.os.trans h.os, k.tape.trans h.tape, k.output.trans h.output, Nat.le_trans h.size k.size, fun i hi hne => (k.block i (Nat.lt_of_lt_of_le hi h.size) (fun e => by have := hr i e.symm; omega)).trans (h.block i hi hne)⟩

theorem own_keepT {w w' : World} {base e s n T : Nat} {v : Value} {xs : List Value} (h : w.ownsRow base e s v n xs) (hg : w.grownBy w' (some T)) (hT : T < base) : w'.ownsRow base e s v n xs :=
  h.kept hg (by
    cases hv : v.ownBlock with
    | none => exact .inl rfl
    | some k => exact .inr (fun e => by have := (h.lt k hv).1; injection e; omega))

def fi (p : Nat → Bool) : Nat → Nat → Int
  | 0, _ => -1
  | n + 1, i => if p i then (i : Int) else fi p n (i + 1)

theorem fi_step (p : Nat → Bool) (n k : Nat) (h : k < n) : (p k = true → fi p (n - k) k = (k : Int)) ∧ (p k = false → fi p (n - k) k = fi p (n - (k + 1)) (k + 1)) := by
  obtain ⟨m, hm⟩ : ∃ m, n - k = m + 1 := ⟨n - k - 1, by omega⟩
  have e : n - (k + 1) = m := by omega
  rw [hm, e]
  exact ⟨fun h => by rw [fi, if_pos h], fun h => by rw [fi, if_neg (by rw [h]; decide)]⟩

theorem fi_all (p : Nat → Bool) : ∀ n i, (fi p n i = -1 ∧ ∀ j, j < n → p (i + j) = false) ∨ ∃ j, j < n ∧ fi p n i = ((i + j : Nat) : Int) ∧ p (i + j) = true ∧ ∀ l, l < j → p (i + l) = false
  | 0, i => .inl ⟨rfl, fun j h => absurd h (by omega)⟩
  | n + 1, i => by
    by_cases h : p i = true
    · exact .inr ⟨0, by omega, by rw [fi, if_pos h]; rfl, h, fun l hl => absurd hl (by omega)⟩
    · have h0 : p i = false := by simpa using h
      rw [fi, if_neg h]
      have sh : ∀ j, p (i + 1 + j) = p (i + (j + 1)) := fun j => by rw [Nat.add_assoc, Nat.add_comm 1 j]
      rcases fi_all p n (i + 1) with ⟨h1, h2⟩ | ⟨j, h1, h2, h3, h4⟩
      · refine .inl ⟨h1, fun j hj => ?_⟩
        cases j with
        | zero => exact h0
        | succ j => rw [← sh]; exact h2 j (by omega)
      · refine .inr ⟨j + 1, by omega, by rw [h2]; congr 1; omega, by rw [← sh]; exact h3, fun l hl => ?_⟩
        cases l with
        | zero => exact h0
        | succ l => rw [← sh]; exact h4 l (by omega)

theorem fi_none (p : Nat → Bool) (n : Nat) (h : anyB p n = false) : fi p n 0 = -1 := by
  rcases fi_all p n 0 with ⟨h1, _⟩ | ⟨j, h1, h2, h3, h4⟩
  · exact h1
  · rw [no_any h (0 + j) (by omega)] at h3
    cases h3

theorem fi_some (p : Nat → Bool) (n : Nat) (h : anyB p n = true) : ∃ q : Nat, fi p n 0 = (q : Int) := by
  rcases fi_all p n 0 with ⟨h1, h2⟩ | ⟨j, h1, h2, h3, h4⟩
  · obtain ⟨i, hi, hp⟩ := (any_iff p n).1 h
    have := h2 i hi
    rw [Nat.zero_add, hp] at this
    cases this
  · exact ⟨_, h2⟩

end Go.Proofs.YtahggnlmabdbbaaDoor.Di
