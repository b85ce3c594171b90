import Derived.Test.YtahggnlmabdbbaaDoorSxC
import Derived.Maps.AppendAt
import Derived.Laws.AppendOwnNone
import Derived.Great.BuildSlice
import Derived.Laws.StructEq
namespace Go.Proofs.YtahggnlmabdbbaaDoor.Sx
open Go.RowKit Go.Shelf
set_option linter.unusedVariables false
set_option linter.unusedSimpArgs false

/-! ### Operations that turn the world, in a plain region and in one that draws -/
def Yl (P : Program) (a : Act) (o : Oper) (w : World) (K : Value → World → Prop) : Prop :=
  (∃ v w', (execOp a.eval o).run P w = .ok (.value v) w' ∧ K v w') ∨
  ∃ (f : FuncId) (args : List Value) (R : Ending → World → Prop), (execOp a.eval o).run P w = .ok (.enter f args.toArray) w ∧ Calls P f args.toArray w R ∧ ∀ e w', R e w' → ∃ v, e = .returned v ∧ K v w'
def Yu (P : Program) (a : Act) (o : Oper) (w : World) (K : World → Prop) : Prop := ∃ w', (execOp a.eval o).run P w = .ok .skip w' ∧ K w'
section
variable {P : Program} {ops : Array Oper} {Q : Exit → Act → World → Prop} {rest : List Oper} {o : Oper} {w : World} {n d : Nat} {fr : Fr n} {al : List (Nat × Value)}
theorem sy {K : Value → World → Prop} (h : Yl P (Fa fr al) o w K) (hd : o.dst = some d) (hg : Region.wanted o (yielded ops (Fa fr al).tmps) = true) (k : ∀ v w', K v w' → Wl P ops Q rest (Fa fr ((d, v) :: al)) w') : Wl P ops Q (o :: rest) (Fa fr al) w := by
  rcases h with ⟨v, w', hr, hk⟩ | ⟨f, args, R, hr, hc, hk⟩
  · exact sv hr hd hg (k v w' hk)
  · exact sc hr hd hg hc (fun e w' he => by obtain ⟨v, h1, h2⟩ := hk e w' he; exact ⟨v, h1, k v w' h2⟩)
theorem syu {K : World → Prop} (h : Yu P (Fa fr al) o w K) (hd : o.dst = none) (hg : Region.wanted o (yielded ops (Fa fr al).tmps) = true) (k : ∀ w', K w' → Wl P ops Q rest (Fa fr al) w') : Wl P ops Q (o :: rest) (Fa fr al) w := by
  obtain ⟨w', hr, hk⟩ := h
  exact su hr hd hg (k w' hk)
theorem wy {i : Nat} {K : Value → World → Prop} {K2 : Act → World → Prop} (hi : ops[i]? = some o) (hwa : Region.wanted o (yielded ops (Fa fr al).tmps) = true) (h : Yl P (Fa fr al) o w K) (hd : o.dst = some d) (k : ∀ v w', K v w' → K2 (Fa fr ((d, v) :: al)) w') : Wo P ops Q i K2 (Fa fr al) w := by
  rcases h with ⟨v, w', hr, hk⟩ | ⟨f, args, R, hr, hc, hk⟩
  · exact wv hi hwa hd hr (k v w' hk)
  · exact wc hi hwa hd hr hc (fun e w' he => by obtain ⟨v, h1, h2⟩ := hk e w' he; exact ⟨v, h1, k v w' h2⟩)
theorem wyu {i : Nat} {K : World → Prop} {K2 : Act → World → Prop} (hi : ops[i]? = some o) (hwa : Region.wanted o (yielded ops (Fa fr al).tmps) = true) (h : Yu P (Fa fr al) o w K) (hd : o.dst = none) (k : ∀ w', K w' → K2 (Fa fr al) w') : Wo P ops Q i K2 (Fa fr al) w := by
  obtain ⟨w', hr, hk⟩ := h
  exact wu hi hwa hd hr (k w' hk)
end

/-- A block is new. -/
structure New (w w' : World) (b : Nat) : Prop where
  r : Rel NoC w w'
  ge : w.heap.size ≤ b
  lt : b < w'.heap.size
section
variable {P : Program} {w : World} {n : Nat} {fr : Fr n} {al : List (Nat × Value)} {dst : Option Nat} {ty : TypeId} {pos : String} {af : Array Edge} {g : Option (Nat × Bool)}
theorem new_alloc (w : World) (l : List Value) (t : TypeId) : New w (w.alloc (.cells l.toArray t)) w.heap.size ∧ Bx (w.alloc (.cells l.toArray t)) w.heap.size l t :=
  ⟨⟨Rel.alloc _ _, Nat.le_refl _, by simp⟩, heap_alloc_new _ _⟩
theorem y_call {f : FuncId} {xs : List Operand} {ts : Array TypeId} {vs : List Value} {R : Ending → World → Prop} {K : Value → World → Prop} (hf : Enters P f) (hx : eos n al xs = some vs) (hc : Calls P f vs.toArray w R) (hk : ∀ e w', R e w' → ∃ v, e = .returned v ∧ K v w') : Yl P (Fa fr al) ⟨dst, .call { callee := .value (.func f), args := xs.toArray, argTypes := ts }, ty, pos, af, g⟩ w K :=
  .inr ⟨f, vs, R, r_call hf hx, hc, hk⟩
theorem y_box {t : TypeId} {x : Operand} {v : Value} {l : List Value} (hx : eo n al x = some v) (hl : v.cells = l.toArray) : Yl P (Fa fr al) ⟨dst, .box t x, ty, pos, af, g⟩ w (fun u w' => ∃ b, u = .pointer (some ⟨b, 0, none⟩) ∧ New w w' b ∧ Bx w' b l t) :=
  .inl ⟨_, _, r_box hx hl, _, rfl, (new_alloc w l t).1, (new_alloc w l t).2⟩
theorem y_all {t : TypeId} {z : Value} {l : List Value} {s b : Nat} (hz : (P.info? t).map (fun i => (i.zero, i.size, i.bytes)) = some (some z, s, b)) (hl : z.cells = l.toArray) : Yl P (Fa fr al) ⟨dst, .alloc t, ty, pos, af, g⟩ w (fun u w' => ∃ b, u = .pointer (some ⟨b, 0, none⟩) ∧ New w w' b ∧ Bx w' b l t) :=
  .inl ⟨_, _, r_all hz hl, _, rfl, (new_alloc w l t).1, (new_alloc w l t).2⟩
theorem y_bs {t e : TypeId} {k : Nat} {ps : List (Nat × Operand)} {vs : List (Nat × Value)} {l : List Value} (hx : eop n al ps = some vs) (h : ∀ w, (Instr.buildSlice t k vs.toArray).run P w = .ok (.slice (some ⟨w.heap.size, 0, none⟩) k k) (w.alloc (.cells l.toArray e))) : Yl P (Fa fr al) ⟨dst, .buildSlice t k ps.toArray, ty, pos, af, g⟩ w (fun u w' => ∃ b, u = .slice (some ⟨b, 0, none⟩) k k ∧ New w w' b ∧ Bx w' b l e) := by
  have e1 := eop_eval (fr := fr) hx
  have e2 : (ps.toArray.map fun (p : Nat × Operand) => (p.1, (Fa fr al).eval p.2)) = vs.toArray := by simp [e1]
  refine .inl ⟨_, _, ?_, _, rfl, (new_alloc w l e).1, (new_alloc w l e).2⟩
  simp only [execOp]
  simp only [Sem.run_bind, Sem.run_pure, e2, h, Result.andThen_ok]
/-- One cell of a block known whole is stored. -/
theorem u_st {t e : TypeId} {x y : Operand} {b j : Nat} {l : List Value} {v u : Value} (ht : (P.info? t).map (·.size) = some 1) (hx : eo n al x = some (.pointer (some ⟨b, 0 + j, none⟩))) (hy : eo n al y = some v) (hv : v.cells = #[v]) (hv1 : v.oneCell' = true) (hb : Bx w b l e) (hj : nth l j = some u) : Yu P (Fa fr al) ⟨dst, .store t x y, ty, pos, af, g⟩ w (fun w' => Rel (fun k => k = b) w w' ∧ w'.heap.size = w.heap.size ∧ Bx w' b (upd l j v) e) := by
  have hc : w.cell? ⟨b, j, none⟩ = some u := by
    have := hb.seg j u (by rw [← nth_get]; exact hj)
    rwa [Nat.zero_add] at this
  have hf : w.frozen? ⟨b, j, none⟩ = false := frozen_of_row _ _ _ _ _ hb
  refine ⟨w.setCell ⟨b, j, none⟩ v, ?_, Rel.set _ _ _ _, by simp [World.setCell], ?_⟩
  · cases hi : P.info? t with
    | none => rw [hi] at ht; cases ht
    | some i =>
      have hs : i.size = 1 := by simpa [hi] using ht
      simp only [execOp, eo_eval hx, eo_eval hy]
      have ea : (⟨b, j, none⟩ : Addr).add 0 = ⟨b, j, none⟩ := by unfold Addr.add; split <;> simp_all
      simp [Instr.storeAt, Instr.sureAddr, storeVar, sizeOf, typeInfo, hi, hs, hv, storeCells, ea, run_store P w ⟨b, j, none⟩ v _ hv1, stored, hc, hf]
  · have := heap_setCell_same w b j l.toArray e v hb
    unfold Bx
    rw [this, upd_set]
    simp
/-- A block is stored whole. -/
theorem u_stR {t e s : TypeId} {x y : Operand} {b : Nat} {l l' : List Value} (ht : TyR P t s) (hx : eo n al x = some (.pointer (some ⟨b, 0, none⟩))) (hy : eo n al y = some (.agg l'.toArray)) (hv1 : l'.all (·.oneCell') = true) (hb : Bx w b l e) (hl : l.length = s) (hl' : l'.length = s) : Yu P (Fa fr al) ⟨dst, .store t x y, ty, pos, af, g⟩ w (fun w' => Rel (fun k => k = b) w w' ∧ w'.heap.size = w.heap.size ∧ Bx w' b l' e) := by
  obtain ⟨d, h1, h2, h3⟩ := ht
  refine ⟨w.setRow b l'.toArray, ?_, ⟨rfl, rfl, rfl, by simp, fun k _ hk => setRow_other _ _ _ _ hk⟩, by simp, setRow_heap _ _ _ _ _ _ hb⟩
  simp only [execOp, eo_eval hx, eo_eval hy]
  have := run_storeVar_row (P := P) w b e t l.toArray l'.toArray hb (by rw [h3]; simp [hl']) (by simp [hl, hl']) (by simpa using hv1)
  simp [Instr.storeAt, Instr.sureAddr, this]
/-- Onto a row of the call's own. -/
theorem y_app {x y : Operand} {t e size bytes base m : Nat} {z : Value} {v : Value} {k c b : Nat} {xs l : List Value} {ll : TypeId} (hu : P.underlying t = some (.slice e)) (hz : (P.info? e).map (fun i => (i.zero, i.size, i.bytes)) = some (some z, size, bytes)) (hzs : z.cells.size = size) (hpos : 0 < size) (hby : bytes ≤ 1000)
    (hx : eo n al x = some v) (hy : eo n al y = some (.slice (some ⟨b, 0, none⟩) m c)) (hown : w.ownsRow base e size v k xs) (hb : Bx w b l ll) (hl : l.length = m * size) (h1 : l.all (·.oneCell') = true) (hk : k + m ≤ 100000) (hbase : base ≤ w.heap.size) :
    Yl P (Fa fr al) ⟨dst, .call { callee := .builtin .append, args := #[x, y], argTypes := #[t, t] }, ty, pos, af, g⟩ w (fun u w' => ∃ A' c', u = .slice A' (k + m) c' ∧ w'.ownsRow base e size (.slice A' (k + m) c') (k + m) (xs ++ l) ∧ Rel (fun k => some k = v.ownBlock) w w' ∧ ((Value.slice A' (k + m) c').ownBlock = v.ownBlock ∨ (Value.slice A' (k + m) c').ownBlock = some w.heap.size)) := by
  cases hi : P.info? e with
  | none => rw [hi] at hz; cases hz
  | some i =>
    rw [hi] at hz
    simp at hz
    have hmul : (k + m) * bytes ≤ 100000 * 1000 := Nat.mul_le_mul hk hby
    obtain ⟨v', w', hr, h2, h3, h4, h5⟩ := run_append_own_at (P := P) w base t ty e i z size bytes hu hi hz.1 hz.2.1 hz.2.2 hzs hpos v k xs hown ⟨b, 0, none⟩ m c l hl (fun j u hj => by
      have := hb.seg j u hj
      rw [Addr.add_mid]; exact this) (fun u hu => by simpa using (List.all_eq_true.1 h1) u hu) (by unfold maxLen; omega) (by omega) hbase
    obtain ⟨A', c', rfl⟩ : ∃ A' c', v' = .slice A' (k + m) c' := by
      rcases h2.2 with ⟨e1, e2⟩ | ⟨g2, cap, cur, e1, _⟩
      · exact ⟨none, 0, by rw [e1, e2]⟩
      · exact ⟨_, _, e1⟩
    refine .inl ⟨_, w', ?_, A', c', rfl, h2, Rel.ofG h3, h5⟩
    simp only [execOp, resolve]
    simp only [Sem.run_bind, Sem.run_pure, Result.andThen_ok, List.map_toArray, List.map_cons, List.map_nil, eo_eval hx, eo_eval hy, invoke, builtin, hr]
end
section
variable {P : Program} {w : World} {n : Nat} {fr : Fr n} {al : List (Nat × Value)} {dst : Option Nat} {ty xt pt : TypeId} {pos : String} {af : Array Edge} {g : Option (Nat × Bool)} {x y : Operand}
theorem Addr.add0 (a : Addr) : a.add 0 = a := by unfold Addr.add; simp
/-- x[:k] -/
theorem r_slh {t e s : Nat} {A : Option Addr} {m c k : Nat} {i : Int} (ht : P.underlying t = some (.slice e)) (hs : (P.info? e).map (·.size) = some s) (hx : eo n al x = some (.slice A m c)) (hy : eo n al y = some (.int .i64 i)) (hi : i = (k : Int)) (hk : k ≤ c) : (execOp (Fa fr al).eval ⟨dst, .slice t x none (some y) none, ty, pos, af, g⟩).run P w = .ok (.value (.slice A k c)) w := by
  subst hi
  cases hq : P.info? e with
  | none => rw [hq] at hs; cases hs
  | some j =>
    simp only [execOp, eo_eval hx, Option.map_none, Option.map_some, eo_eval hy]
    have h1 : (Instr.sliceBound (.int .i64 (k : Int)) c .sliceAcap).run P w = .ok k w := by simp [Instr.sliceBound, asIntOf]; omega
    have h2 : (match A with | none => none | some a => some (a.add 0)) = A := by cases A <;> simp [Addr.add0]
    simp [Instr.sliceAt, run_underlying ht, Instr.slice, Instr.sliceBounds, h1, sizeOf, typeInfo, hq]
    by_cases h0 : c = 0
    · simp [h0]
    · cases A <;> simp [h0, Addr.add0]
theorem r_mkf {f : Fn} {xs ys : List Operand} {us vs : List Value} (hx : eos n al xs = some us) (hy : eos n al ys = some vs) : (execOp (Fa fr al).eval ⟨dst, .makeFunc f xs.toArray ys.toArray, ty, pos, af, g⟩).run P w = .ok (.value (.func f us.toArray vs.toArray)) w := by
  have h1 := eos_eval (fr := fr) hx
  have h2 := eos_eval (fr := fr) hy
  simp only [execOp, List.map_toArray, h1, h2]
  simp [Instr.makeFunc]
/-- A function value is called. -/
theorem r_callv {f : FuncId} {x : Operand} {xs : List Operand} {ts : Array TypeId} {us vs cs : List Value} (hf : Enters P f) (hv : eo n al x = some (.func (.func f) us.toArray cs.toArray)) (hx : eos n al xs = some vs) : (execOp (Fa fr al).eval ⟨dst, .call { callee := .value x, args := xs.toArray, argTypes := ts }, ty, pos, af, g⟩).run P w = .ok (.enter f (us ++ vs ++ cs).toArray) w := by
  have := eos_eval (fr := fr) hx
  simp only [execOp, resolve, eo_eval hv]
  simp [this, Deferred.ofValue, invoke]
  have h2 := hf (us ++ (vs ++ cs)).toArray w
  simpa using h2
theorem r_eqS {l m : List Value} {p : Bool} (hm : P.eqGuardType P.depth xt = false) (hx : eo n al x = some (.agg l.toArray)) (hy : eo n al y = some (.agg m.toArray)) (h : ∀ w, (binOp .eql xt (.agg l.toArray) (.agg m.toArray)).run P w = .ok (.bool p) w) : (execOp (Fa fr al).eval ⟨dst, .binOp .eql xt x y pt, ty, pos, af, g⟩).run P w = .ok (.value (.bool p)) w :=
  r_bo hx hy (by simp [run_eqGuard_agg (hm := hm), h])
theorem r_neS {l m : List Value} {p : Bool} (hm : P.eqGuardType P.depth xt = false) (hx : eo n al x = some (.agg l.toArray)) (hy : eo n al y = some (.agg m.toArray)) (h : ∀ w, (binOp .neq xt (.agg l.toArray) (.agg m.toArray)).run P w = .ok (.bool p) w) : (execOp (Fa fr al).eval ⟨dst, .binOp .neq xt x y pt, ty, pos, af, g⟩).run P w = .ok (.value (.bool p)) w :=
  r_bo hx hy (by simp [run_eqGuard_agg (hm := hm), h])
end
theorem own_not {w : World} {B e s n b : Nat} {v : Value} {xs l : List Value} {t : TypeId} (h : w.ownsRow B e s v n xs) (hb : Bx w b l t) (hne : t ≠ e) : ¬ some b = v.ownBlock := fun e1 => by
  rcases h.2 with ⟨rfl, _⟩ | ⟨g, cap, cur, rfl, _, hh, _⟩
  · cases e1
  · have e2 : b = g := by simpa [Value.ownBlock] using e1
    subst e2
    unfold Bx at hb
    rw [hb] at hh
    injection hh with q
    injection q with _ q2
    exact hne q2
theorem own_far {w : World} {B e s n b : Nat} {v : Value} {xs : List Value} (h : w.ownsRow B e s v n xs) (hb : b < B ∨ w.heap.size ≤ b) : ¬ some b = v.ownBlock := fun e1 => by
  have := h.lt b e1.symm
  omega
theorem own_rel {c : Nat → Prop} {w w' : World} {B e s n : Nat} {v : Value} {xs : List Value} (h : w.ownsRow B e s v n xs) (r : Rel c w w') (hc : ∀ g, v.ownBlock = some g → ¬ c g) : w'.ownsRow B e s v n xs := by
  refine ⟨h.1, ?_⟩
  rcases h.2 with h2 | ⟨g, cap, cur, h1, h2, h3, h4⟩
  · exact .inl h2
  · exact .inr ⟨g, cap, cur, h1, h2, (r.block g (Array.getElem?_eq_some_iff.1 h3).1 (hc g (by rw [h1]; rfl))).trans h3, h4⟩
theorem own_ge {w : World} {B e s n x : Nat} {v : Value} {xs : List Value} (h : w.ownsRow B e s v n xs) (hx : some x = v.ownBlock) : B ≤ x ∧ x < w.heap.size := h.lt x hx.symm
theorem own_apart {w : World} {B e s n e' s' n' B' : Nat} {v v' : Value} {xs xs' : List Value} (h : w.ownsRow B e s v n xs) (h' : w.ownsRow B' e' s' v' n' xs') (hne : e ≠ e') (g : Nat) (hg : v.ownBlock = some g) : ¬ some g = v'.ownBlock := fun e1 => by
  rcases h.2 with ⟨rfl, _⟩ | ⟨k, cap, cur, rfl, _, hh, _⟩
  · cases hg
  · have e2 : k = g := by simpa [Value.ownBlock] using hg
    subst e2
    exact own_not h' (b := k) (l := cur.toList) (t := e) hh hne e1
theorem fresh_own {w : World} {B e s n b : Nat} {v : Value} {xs : List Value} (h : w.ownsRow B e s v n xs) (hb : w.heap.size ≤ b) : ¬ some b = v.ownBlock := own_far h (.inr hb)
theorem own_nil (w : World) (base e s : Nat) : w.ownsRow base e s (.slice none 0 0) 0 [] := ⟨by simp, .inl ⟨rfl, rfl⟩⟩
theorem own_nw {w w' : World} {B e s n : Nat} {v : Value} {xs : List Value} (h : w.ownsRow B e s v n xs) (r : Rel NoC w w') : w'.ownsRow B e s v n xs := own_rel h r (fun _ _ h => h)
theorem Has.lo {w : World} {lo hi : Nat} {F : World → Prop} (h : Has w lo hi F) : hi ≤ w.heap.size := h.le
/-! ### Types -/
theorem bs0_of {P : Program} {t e : TypeId} (hu : P.underlying t = some (.slice e)) {size bytes : Nat} {z : Value} (hz : (P.info? e).map (fun i => (i.zero, i.size, i.bytes)) = some (some z, size, bytes)) (w : World) : (Instr.buildSlice t 0 #[]).run P w = .ok (.slice (some ⟨w.heap.size, 0, none⟩) 0 0) (w.alloc (.cells (List.toArray []) e)) := by
  cases hi : P.info? e with
  | none => rw [hi] at hz; cases hz
  | some i =>
    have e0 : ∀ f : Nat → Value, (Array.range 0).map f = #[] := fun f => Array.eq_empty_of_size_eq_zero (by simp)
    simp [Instr.buildSlice, run_underlying hu, sizeOf, typeInfo, hi, Instr.fill, newRow, e0]

theorem bs_of {P : Program} {t e : TypeId} {len size bytes : Nat} {z : Value} {vs : List (Nat × Value)} {l : List Value} (hu : P.underlying t = some (.slice e)) (hz : (P.info? e).map (fun i => (i.zero, i.size, i.bytes)) = some (some z, size, bytes)) (h1 : len * size ≤ 16777216) (h0 : len * size ≠ 0)
    (h : Instr.fill (fun i => some (i * size, size)) ((Array.range (len * size)).map (z.cells[· % z.cells.size]!)) vs = some l.toArray) (w : World) : (Instr.buildSlice t len vs.toArray).run P w = .ok (.slice (some ⟨w.heap.size, 0, none⟩) len len) (w.alloc (.cells l.toArray e)) := by
  cases hi : P.info? e with
  | none => rw [hi] at hz; cases hz
  | some i =>
    rw [hi] at hz
    simp at hz
    obtain ⟨q1, q2, q3⟩ := hz
    subst q2
    exact run_buildSlice (P := P) w t e len vs.toArray l.toArray i z hu hi q1 (by omega) h0 (by simpa using h)

theorem ty1_of {P : Program} {t : TypeId} {d : TypeDesc} (hu : P.underlying t = some d) (hd : d.isRow = false) : Ty1 P t := fun a w v hv => by
  have hagg : (isAgg t).run P w = .ok false w := by
    unfold isAgg
    rw [Sem.run_bind, run_underlying hu w]
    cases d <;> simp_all
  simp [loadVar, Sem.run_bind, hagg, hv]
theorem fo_of {P : Program} {s f off sz : Nat} {fields : Array Field} {fd : Field} (hu : P.underlying s = some (.struct fields)) (hf : fields[f]? = some fd) (ho : fd.offset = off) (hz : (P.info? fd.type).map (·.size) = some sz) (h0 : sz ≠ 0) : Fo P s f off := fun a w => by
  cases hi : P.info? fd.type with
  | none => rw [hi] at hz; cases hz
  | some i =>
    have hs : i.size = sz := by simpa [hi] using hz
    simp [Instr.fieldAt, Sem.run_bind, run_underlying hu w, hf, Instr.sureAddr, fieldPlace, sizeOf, typeInfo, hi, hs, h0, ho]
theorem ix_of {P : Program} {t e s : Nat} (hu : P.underlying t = some (.slice e)) (hz : (P.info? e).map (·.size) = some s) : Ix P t s := fun b o n c i w h0 h1 => by
  cases hi : P.info? e with
  | none => rw [hi] at hz; cases hz
  | some j =>
    have hs : j.size = s := by simpa [hi] using hz
    simp [Instr.indexAt, asIntOf, Sem.run_bind, run_underlying hu w, h0, h1, sizeOf, typeInfo, hi, hs, Addr.add_mid]
end Go.Proofs.YtahggnlmabdbbaaDoor.Sx
