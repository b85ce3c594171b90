import Derived.Test.YtahggnlmabdbbaaDoorRtD
import Derived.ArgAppend
import Derived.Deep.AppendLies
namespace Go.Proofs.YtahggnlmabdbbaaDoor.Di
open Go.RowKit Go.Maps
open Go.Proofs.YtahggnlmabdbbaaDoor.Tp
set_option linter.unusedVariables false

/-- A queue: a slice of one-cell elements somewhere in a row of the call's own. -/
structure Qu (w : World) (B e g off n cap : Nat) (xs : List Value) : Prop where
  base : B ≤ g
  le : n ≤ cap
  len : xs.length = n
  row : ∃ cur, w.heap[g]? = some (.cells cur e (0, 0)) ∧ off + cap ≤ cur.size ∧ ∀ j u, xs[j]? = some u → cur[off + j]? = some u
theorem Qu.lt {w : World} {B e g off n cap : Nat} {xs : List Value} (h : Qu w B e g off n cap xs) : g < w.heap.size := by
  obtain ⟨cur, h1, -⟩ := h.row
  exact row_lt h1
theorem Qu.cell {w : World} {B e g off n cap : Nat} {xs : List Value} (h : Qu w B e g off n cap xs) {j : Nat} {u : Value} (hj : xs[j]? = some u) : w.cell? ⟨g, off + j, none⟩ = some u := by
  obtain ⟨cur, h1, -, h2⟩ := h.row
  rw [cell_of_row _ _ _ _ _ _ h1]
  exact h2 j u hj
theorem Qu.keep {w w' : World} {B e g off n cap : Nat} {xs : List Value} {row : Option Nat} (h : Qu w B e g off n cap xs) (hg : w.grownBy w' row) (hn : row ≠ some g) : Qu w' B e g off n cap xs := by
  have hl := h.lt
  obtain ⟨cur, h1, h2, h3⟩ := h.row
  exact ⟨h.base, h.le, h.len, cur, (hg.block g hl (fun e => hn e.symm)).trans h1, h2, h3⟩
theorem Qu.tail {w : World} {B e g off n cap : Nat} {xs : List Value} (h : Qu w B e g off n cap xs) (hn : 0 < n) : Qu w B e g (if cap = 1 then off else off + 1) (n - 1) (cap - 1) (xs.drop 1) := by
  obtain ⟨cur, h1, h2, h3⟩ := h.row
  have hle := h.le
  have hlen := h.len
  refine ⟨h.base, by omega, by simp; omega, cur, h1, ?_, fun j u hj => ?_⟩
  · split <;> omega
  · by_cases e : cap = 1
    · have : j < (xs.drop 1).length := (List.getElem?_eq_some_iff.1 hj).1
      simp at this
      omega
    · rw [if_neg e]
      rw [List.getElem?_drop] at hj
      have := h3 _ _ hj
      rwa [show off + (1 + j) = off + 1 + j by omega] at this
theorem qu_run {P : Program} (w : World) (B : Nat) (t ty e : TypeId) (i : TypeInfo) (z : Value) (bytes : Nat) (ht : P.underlying t = some (.slice e)) (hi : P.info? e = some i) (hz : i.zero = some z) (hs : i.size = 1) (hb : i.bytes = bytes) (hzs : z.cells.size = 1) (hby : bytes ≤ 1000)
    {g off n cap : Nat} {xs : List Value} (h : Qu w B e g off n cap xs) (hbase : B ≤ w.heap.size) (hn : n ≤ 1000) (ad : Addr) (c : Nat) (x : Value) (hx : ∀ j u, [x][j]? = some u → w.cell? (ad.add j) = some u) (h1 : x.oneCell' = true) :
    ∃ g' off' cap' w', (Builtin.append_ #[t, t] ty #[.slice (some ⟨g, off, none⟩) n cap, .slice (some ad) 1 c]).run P w = .ok (.slice (some ⟨g', off', none⟩) (n + 1) cap') w' ∧
      Qu w' B e g' off' (n + 1) cap' (xs ++ [x]) ∧ w.grownBy w' (some g) ∧ (g' = g ∨ w.heap.size ≤ g') := by
  obtain ⟨cur, q1, q2, q3⟩ := h.row
  have hle := h.le
  have hlen := h.len
  have h1' : ∀ u ∈ [x], u.oneCell' = true := fun u hu => by
    rw [List.mem_singleton] at hu; rw [hu]; exact h1
  by_cases hr : n + 1 ≤ cap
  · have hp : off + n < cur.size := by omega
    have hrun := run_append_room_cells (P := P) w t ty e i ht hi g off n cap ad 1 c [x] (by rw [hs]; rfl) hx h1' hr (fun j hj => by
      simp at hj; subst hj
      rw [hs, cell_of_row _ _ _ _ _ _ q1, Nat.mul_one, Nat.add_zero]
      simp [hp]) (fun j hj => frozen_of_row _ _ _ _ _ q1)
    have hw : w.setCells g (off + n * i.size) [x] = w.setCell ⟨g, off + n, none⟩ x := by
      rw [hs, Nat.mul_one]; rfl
    rw [hw] at hrun
    refine ⟨g, off, cap, _, hrun, ⟨h.base, hr, by simp [hlen], cur.setIfInBounds (off + n) x, ?_, by simpa using q2, fun j u hj => ?_⟩, gb_set _ _ _ _, .inl rfl⟩
    · rw [setCell_eq_setRow _ _ _ _ _ _ _ q1]
      exact setRow_heap _ _ _ _ _ _ q1
    · by_cases e : j = n
      · subst e
        rw [List.getElem?_append_right (by omega), hlen, Nat.sub_self] at hj
        cases hj
        rw [Array.getElem?_setIfInBounds]
        simp [hp]
      · have hjl : j < (xs ++ [x]).length := (List.getElem?_eq_some_iff.1 hj).1
        simp at hjl
        rw [List.getElem?_append_left (by omega)] at hj
        rw [Array.getElem?_setIfInBounds, if_neg (by omega)]
        exact q3 j u hj
  · obtain ⟨v', w', hrun, r1, r2⟩ := run_append_arg_grows (P := P) w t ty e i z 1 bytes ht hi hz hs hb hzs (by omega) ⟨g, off, none⟩ n cap xs (by omega) (fun j u hj => by rw [Addr.add_lit]; exact h.cell hj) ad 1 c [x] (by simp) hx (by omega) (by unfold maxLen; omega) (by have := Nat.mul_le_mul (show n + 1 ≤ 1001 by omega) hby; omega)
    rcases r1.2 with ⟨_, h0⟩ | ⟨g', cap', cur', hv, hB, hh, hnc, hcm, hcs, htk⟩
    · omega
    · refine ⟨g', 0, cap', w', by rw [hv] at hrun; exact hrun, ⟨by omega, hnc, by simp [hlen], cur', hh, by omega, fun j u hj => ?_⟩, ⟨r2.os, r2.tape, r2.output, r2.size, fun k hk _ => r2.block k hk (by simp)⟩, .inr hB⟩
      rw [← htk] at hj
      have hjl := (List.getElem?_eq_some_iff.1 hj).1
      rw [List.length_take] at hjl
      rw [List.getElem?_take_of_lt (by omega)] at hj
      rw [Nat.zero_add]
      simpa using hj
theorem qu_list {P : Program} {ops : Array Oper} {rest : List Oper} {o : Oper} {a : Act} {w : World} {Q : Exit → Act → World → Prop} (hgd : o.guard = none) (s y : Operand) (B : Nat) (t e : TypeId) (ho : o.op = .call { callee := .builtin .append, args := #[s, y], argTypes := #[t, t] }) (i : TypeInfo) (z : Value) (bytes : Nat) (ht : P.underlying t = some (.slice e)) (hi : P.info? e = some i) (hz : i.zero = some z) (hs : i.size = 1) (hb : i.bytes = bytes) (hzs : z.cells.size = 1) (hby : bytes ≤ 1000)
    {g off n cap : Nat} {xs : List Value} (hv : a.eval s = .slice (some ⟨g, off, none⟩) n cap) (h : Qu w B e g off n cap xs) (hbase : B ≤ w.heap.size) (hn : n ≤ 1000) (ad : Addr) (c : Nat) (x : Value) (hx : a.eval y = .slice (some ad) 1 c) (hnews : ∀ j u, [x][j]? = some u → w.cell? (ad.add j) = some u) (h1 : x.oneCell' = true)
    (hk : ∀ g' off' cap' w', Qu w' B e g' off' (n + 1) cap' (xs ++ [x]) → w.grownBy w' (some g) → (g' = g ∨ w.heap.size ≤ g') → wpList P ops Q rest (a.put o.dst (.slice (some ⟨g', off', none⟩) (n + 1) cap')) w') : wpList P ops Q (o :: rest) a w :=
  wpList_plain hgd fun K hK => by
    obtain ⟨g', off', cap', w', h2, h3, h4, h5⟩ := qu_run (P := P) w B t o.type e i z bytes ht hi hz hs hb hzs hby h hbase hn ad c x hnews h1
    unfold Oper.wp execOp
    simp only [ho, resolve, invoke, builtin, Sem.run_bind, Sem.run_pure, Result.andThen_ok, List.map_toArray, List.map_cons, List.map_nil, hv, hx, h2]
    exact hK _ _ (hk g' off' cap' w' h3 h4 h5)

theorem zv_drop_one (l : List Int) (i : Nat) : (zv (l.drop i)).drop 1 = zv (l.drop (i + 1)) := by
  unfold zv
  rw [← List.map_drop, List.drop_drop]
theorem zv_drop_at {l : List Int} {i : Nat} (h : i < l.length) : (zv (l.drop i))[0]? = some (.int .i64 (e0 l i)) := by
  unfold zv e0
  simp [List.getD_eq_getElem?_getD, h]
theorem zv_drop_snoc {l : List Int} {i : Nat} (h : i ≤ l.length) (x : Int) : zv ((l ++ [x]).drop i) = zv (l.drop i) ++ [.int .i64 x] := by
  unfold zv
  rw [List.drop_append_of_le_length h]
  simp
/-- An own row stays where what turns is another sort of block. -/
theorem own_ty {w w' : World} {B e s n g : Nat} {v : Value} {xs : List Value} {o : Obj} (h : w.ownsRow B e s v n xs) (hg : w.grownBy w' (some g)) (hq : w.heap[g]? = some o) (ho : ∀ cs fr, o ≠ .cells cs e fr) : w'.ownsRow B e s v n xs := by
  refine h.kept hg ?_
  rcases h.2 with ⟨rfl, _⟩ | ⟨g', cap, cur, rfl, _, hh, _⟩
  · exact .inl rfl
  · refine .inr (fun e1 => ?_)
    have e2 : g' = g := by simpa [Value.ownBlock] using e1
    subst e2
    rw [hh] at hq
    injection hq with h1
    exact ho _ _ h1.symm
/-- How a chain's slice reads as a map's element: as it stands. -/
def hdR (v : Value) : Option (DataW Value × List MemPlace) := some (.held v, [])
/-- The map of chains. -/
structure Mp (D : DataW Value) (K : List Int) (hs : Nat → Value) : Prop where
  has : ∀ y, Maps.has D (.int .i64 y) = decide (y ∈ K)
  at_ : ∀ j, j < K.length → D.atKey (.int .i64 (e0 K j)) (.held (.slice none 0 0)) = .held (hs j)
  sz : Maps.size D = K.length
theorem lit_ne {r r' : Int} (h : r ≠ r') : (Lit.int .i64 r) ≠ (Lit.int .i64 r') := fun e => h (by injection e)
theorem Mp.add {D : DataW Value} {K : List Int} {hs : Nat → Value} (h : Mp D K hs) (ht : Maps.Tidy D) {y : Int} (hy : y ∉ K) (v : Value) : Mp (D.put (.int .i64 y) (.held v)) (K ++ [y]) (fun j => if j = K.length then v else hs j) := by
  have hk : WideAt.IsKeyLit (.int .i64 y) := trivial
  refine ⟨fun z => ?_, fun j hj => ?_, ?_⟩
  · by_cases e : z = y
    · subst e
      rw [has_put_same ht.isMap hk]
      simp
    · rw [has_put_other (lit_ne e), h.has]
      simp [e]
  · simp at hj
    by_cases e : j = K.length
    · subst e
      rw [e0_end, if_pos rfl]
      exact atKey_put_same ht.isMap hk _ _
    · rw [e0_left (by omega), if_neg e]
      rw [atKey_put_other (lit_ne (fun e2 => hy (by rw [← e2]; exact e0_mem (by omega))))]
      exact h.at_ j (by omega)
  · rw [size_put ht, h.has, h.sz]
    simp [hy]
theorem Mp.start (c : Int) : Mp ((DataW.map []).put (.int .i64 c) (.held (.slice none 0 0))) [c] (fun _ => .slice none 0 0) := by
  have h : Mp (.map []) [] (fun _ => .slice none 0 0) := ⟨fun y => by simp; rfl, fun j hj => absurd hj (by simp), rfl⟩
  have := h.add tidy_empty (y := c) (by simp) (.slice none 0 0)
  refine ⟨this.has, fun j hj => ?_, this.sz⟩
  refine (this.at_ j hj).trans ?_
  split <;> rfl
/-- How many entries the map of a block has. -/
def mcount (w : World) (b : Nat) : Nat := match w.heap[b]? with | some (.map es _) => es.size | _ => 0
theorem mcount_eq {P : Program} {k : TypeId} {R : Value → Option (DataW Value × List MemPlace)} {w : World} {b n : Nat} {D : DataW Value} (h : w.ownsMap P k R b n D) : mcount w b = Maps.size D := by
  obtain ⟨es, clock, hb, F, hs, rfl⟩ := h
  unfold mcount
  rw [hb, Maps.size_eq, length_sorted]
  simp
theorem law3 : Keyed Tryd.prog 3 := int_keyed Tryd.underlying3
theorem map_obj {P : Program} {k : TypeId} {R : Value → Option (DataW Value × List MemPlace)} {w : World} {b n : Nat} {D : DataW Value} (h : w.ownsMap P k R b n D) : ∃ o, w.heap[b]? = some o ∧ ∀ e cs fr, o ≠ .cells cs e fr := by
  obtain ⟨es, clock, hb, _⟩ := h
  exact ⟨_, hb, fun e cs fr h => by cases h⟩
/-- The rows of the chains. -/
def RowsC (w : World) (B : Nat) (n : Nat) (C : List (List T4)) (hs : Nat → Value) : Prop := ∀ j, j < n → ∃ A cc, hs j = .slice A (C.getD j []).length cc ∧ w.ownsRow B 99 4 (hs j) (C.getD j []).length (v4 (C.getD j []))
theorem RowsC.below {w w' : World} {B n : Nat} {C : List (List T4)} {hs : Nat → Value} (h : RowsC w B n C hs) (hb : Below w.heap.size w w') : RowsC w' B n C hs := fun j hj => by
  obtain ⟨A, cc, e, ho⟩ := h j hj
  exact ⟨A, cc, e, own_below ho hb⟩
theorem RowsC.ty {w w' : World} {B n g : Nat} {C : List (List T4)} {hs : Nat → Value} {o : Obj} (h : RowsC w B n C hs) (hg : w.grownBy w' (some g)) (hq : w.heap[g]? = some o) (ho : ∀ cs fr, o ≠ .cells cs 99 fr) : RowsC w' B n C hs := fun j hj => by
  obtain ⟨A, cc, e, h1⟩ := h j hj
  exact ⟨A, cc, e, own_ty h1 hg hq ho⟩
theorem RowsC.add {w : World} {B n : Nat} {C : List (List T4)} {hs : Nat → Value} (h : RowsC w B n C hs) (hn : C.length = n) {l : List T4} {A : Option Addr} {cc : Nat} (hr : w.ownsRow B 99 4 (.slice A l.length cc) l.length (v4 l)) :
    RowsC w B (n + 1) (C ++ [l]) (fun j => if j = n then .slice A l.length cc else hs j) := fun j hj => by
  by_cases e : j = n
  · subst e
    have : (C ++ [l]).getD j [] = l := by rw [← hn]; exact getD_end
    rw [this]
    exact ⟨A, cc, by simp, by simpa using hr⟩
  · obtain ⟨A', cc', e', ho⟩ := h j (by omega)
    have : (C ++ [l]).getD j [] = C.getD j [] := getD_left (by omega)
    rw [this]
    exact ⟨A', cc', by simp [e, e'], by simpa [e] using ho⟩
/-- The map of a call of chains. -/
def ChPost (x : Rt) (c : Int) (w : World) (e : Ending) (w' : World) : Prop := ∃ b K C D hs, e = .returned (.map (some b)) ∧ w.heap.size ≤ b ∧ w'.ownsMap Tryd.prog 3 hdR b 24 D ∧ Mp D K hs ∧ Bf x c K C K.length 0 ∧ RowsC w' w.heap.size K.length C hs ∧ Below w.heap.size w w'

end Go.Proofs.YtahggnlmabdbbaaDoor.Di
