import Derived.Test.YtahggnlmabdbbaaDoorSxB
import Derived.Laws.Tables
namespace Go.Proofs.YtahggnlmabdbbaaDoor.Sx
open Go.RowKit Go.Shelf
set_option linter.unusedVariables false
set_option linter.unusedSimpArgs false

section
variable {P : Program} {w : World} {n : Nat} {fr : Fr n} {al : List (Nat × Value)} {dst : Option Nat} {ty xt pt : TypeId} {pos : String} {af : Array Edge} {g : Option (Nat × Bool)} {x y : Operand} {a b : Int}
theorem r_bo {op : BinOp} {v : Value} {u : Value} {r : Value} (hx : eo n al x = some v) (hy : eo n al y = some u) (h : (do eqGuard op xt x y v u; binOp op xt v u : Sem Value).run P w = .ok r w) : (execOp (Fa fr al).eval ⟨dst, .binOp op xt x y pt, ty, pos, af, g⟩).run P w = .ok (.value r) w := by
  simp only [execOp, eo_eval hx, eo_eval hy]
  simp only [Sem.run_bind, Sem.run_pure] at h ⊢
  rw [h]
  rfl
theorem r_add (hx : eo n al x = some (.int .i64 a)) (hy : eo n al y = some (.int .i64 b)) (h0 : -9223372036854775808 ≤ a + b) (h1 : a + b ≤ 9223372036854775807) : (execOp (Fa fr al).eval ⟨dst, .binOp .add xt x y pt, ty, pos, af, g⟩).run P w = .ok (.value (.int .i64 (a + b))) w :=
  r_bo hx hy (by have := IntWalk.i64_in (a + b) (by omega); simp [eqGuard, binOp, Op.intArith, this])
theorem r_sub (hx : eo n al x = some (.int .i64 a)) (hy : eo n al y = some (.int .i64 b)) (h0 : -9223372036854775808 ≤ a - b) (h1 : a - b ≤ 9223372036854775807) : (execOp (Fa fr al).eval ⟨dst, .binOp .sub xt x y pt, ty, pos, af, g⟩).run P w = .ok (.value (.int .i64 (a - b))) w :=
  r_bo hx hy (by have := IntWalk.i64_in (a - b) (by omega); simp [eqGuard, binOp, Op.intArith, this])
theorem r_mul (hx : eo n al x = some (.int .i64 a)) (hy : eo n al y = some (.int .i64 b)) (h0 : -9223372036854775808 ≤ a * b) (h1 : a * b ≤ 9223372036854775807) : (execOp (Fa fr al).eval ⟨dst, .binOp .mul xt x y pt, ty, pos, af, g⟩).run P w = .ok (.value (.int .i64 (a * b))) w :=
  r_bo hx hy (by have := IntWalk.i64_in (a * b) ⟨h0, h1⟩; simp [eqGuard, binOp, Op.intArith, this])
theorem r_lt (hx : eo n al x = some (.int .i64 a)) (hy : eo n al y = some (.int .i64 b)) : (execOp (Fa fr al).eval ⟨dst, .binOp .lss xt x y pt, ty, pos, af, g⟩).run P w = .ok (.value (.bool (decide (a < b)))) w :=
  r_bo hx hy (by simp [eqGuard, binOp, Op.intCmp])
theorem r_le (hx : eo n al x = some (.int .i64 a)) (hy : eo n al y = some (.int .i64 b)) : (execOp (Fa fr al).eval ⟨dst, .binOp .leq xt x y pt, ty, pos, af, g⟩).run P w = .ok (.value (.bool (decide (a ≤ b)))) w :=
  r_bo hx hy (by simp [eqGuard, binOp, Op.intCmp])
theorem r_gt (hx : eo n al x = some (.int .i64 a)) (hy : eo n al y = some (.int .i64 b)) : (execOp (Fa fr al).eval ⟨dst, .binOp .gtr xt x y pt, ty, pos, af, g⟩).run P w = .ok (.value (.bool (decide (b < a)))) w :=
  r_bo hx hy (by simp [eqGuard, binOp, Op.intCmp])
theorem r_ge (hx : eo n al x = some (.int .i64 a)) (hy : eo n al y = some (.int .i64 b)) : (execOp (Fa fr al).eval ⟨dst, .binOp .geq xt x y pt, ty, pos, af, g⟩).run P w = .ok (.value (.bool (decide (b ≤ a)))) w :=
  r_bo hx hy (by simp [eqGuard, binOp, Op.intCmp])
theorem r_eq (hx : eo n al x = some (.int .i64 a)) (hy : eo n al y = some (.int .i64 b)) : (execOp (Fa fr al).eval ⟨dst, .binOp .eql xt x y pt, ty, pos, af, g⟩).run P w = .ok (.value (.bool (decide (a = b)))) w :=
  r_bo hx hy (by simp [eqGuard, binOp, Op.intCmp]; rfl)
theorem r_ne (hx : eo n al x = some (.int .i64 a)) (hy : eo n al y = some (.int .i64 b)) : (execOp (Fa fr al).eval ⟨dst, .binOp .neq xt x y pt, ty, pos, af, g⟩).run P w = .ok (.value (.bool (decide (a ≠ b)))) w :=
  r_bo hx hy (by simp [eqGuard, binOp, Op.intCmp]; rfl)
theorem r_rem (hx : eo n al x = some (.int .i64 a)) (hy : eo n al y = some (.int .i64 b)) (h0 : 0 ≤ a) (h1 : 0 < b) (h2 : b ≤ 9223372036854775807) : (execOp (Fa fr al).eval ⟨dst, .binOp .rem xt x y pt, ty, pos, af, g⟩).run P w = .ok (.value (.int .i64 (a % b))) w :=
  r_bo hx hy (by
    have e : a.tmod b = a % b := Int.tmod_eq_emod_of_nonneg h0
    have h3 := Int.emod_nonneg a (show b ≠ 0 by omega)
    have h4 := Int.emod_lt_of_pos a h1
    have := IntWalk.i64_in (a % b) (by omega)
    have hb : b ≠ 0 := by omega
    simp [eqGuard, binOp, Op.intDiv, e, this, hb])
theorem r_quo (hx : eo n al x = some (.int .i64 a)) (hy : eo n al y = some (.int .i64 b)) (h0 : 0 ≤ a) (h1 : 0 < b) (h2 : a ≤ 9223372036854775807) : (execOp (Fa fr al).eval ⟨dst, .binOp .quo xt x y pt, ty, pos, af, g⟩).run P w = .ok (.value (.int .i64 (a / b))) w :=
  r_bo hx hy (by
    have e : a.tdiv b = a / b := Int.tdiv_eq_ediv_of_nonneg h0
    have h3 := Int.ediv_nonneg h0 (Int.le_of_lt h1)
    have h4 := Int.ediv_le_self b h0
    have := IntWalk.i64_in (a / b) (by omega)
    have hb : b ≠ 0 := by omega
    simp [eqGuard, binOp, Op.intDiv, e, this, hb])
theorem r_max {ts : Array TypeId} (hx : eo n al x = some (.int .i64 a)) (hy : eo n al y = some (.int .i64 b)) : (execOp (Fa fr al).eval ⟨dst, .call { callee := .builtin .max, args := #[x, y], argTypes := ts }, ty, pos, af, g⟩).run P w = .ok (.value (.int .i64 (max a b))) w := by
  have e : (if b > a then b else a) = max a b := by omega
  simp only [execOp, resolve, Array.map, List.map_toArray, List.map_cons, List.map_nil]
  simp [eo_eval hx, eo_eval hy, invoke, builtin, run_max_int2]
  exact e
theorem r_min {ts : Array TypeId} (hx : eo n al x = some (.int .i64 a)) (hy : eo n al y = some (.int .i64 b)) : (execOp (Fa fr al).eval ⟨dst, .call { callee := .builtin .min, args := #[x, y], argTypes := ts }, ty, pos, af, g⟩).run P w = .ok (.value (.int .i64 (min a b))) w := by
  have e : (if b < a then b else a) = min a b := by omega
  simp only [execOp, resolve, Array.map, List.map_toArray, List.map_cons, List.map_nil]
  simp [eo_eval hx, eo_eval hy, invoke, builtin, run_min_int2]
  exact e
theorem r_not {p : Bool} (hx : eo n al x = some (.bool p)) : (execOp (Fa fr al).eval ⟨dst, .unOp .not xt x, ty, pos, af, g⟩).run P w = .ok (.value (.bool (!p))) w := by
  simp only [execOp, eo_eval hx]; simp [Op.unary]
theorem r_eqb {p q : Bool} (ht : P.underlying xt = some .bool) (hx : eo n al x = some (.bool p)) (hy : eo n al y = some (.bool q)) : (execOp (Fa fr al).eval ⟨dst, .binOp .eql xt x y pt, ty, pos, af, g⟩).run P w = .ok (.value (.bool (p == q))) w :=
  r_bo hx hy (by simp [eqGuard, run_eql_bool _ _ _ _ ht])
theorem r_neb {p q : Bool} (ht : P.underlying xt = some .bool) (hx : eo n al x = some (.bool p)) (hy : eo n al y = some (.bool q)) : (execOp (Fa fr al).eval ⟨dst, .binOp .neq xt x y pt, ty, pos, af, g⟩).run P w = .ok (.value (.bool (!(p == q)))) w :=
  r_bo hx hy (by simp [eqGuard, run_neq_bool _ _ _ _ ht])
theorem r_ex {vs : Array Value} {k : Nat} {v : Value} (hx : eo n al x = some (.tuple vs)) (hk : nth vs.toList k = some v) : (execOp (Fa fr al).eval ⟨dst, .extract x k, ty, pos, af, g⟩).run P w = .ok (.value v) w := by
  have hk' : vs[k]? = some v := by rw [nth_get] at hk; simpa using hk
  simp only [execOp, eo_eval hx]; simp [Instr.extract, hk']
theorem r_bld {t : TypeId} {ps : List (Nat × Operand)} {vs : List (Nat × Value)} {l : List Value} (hx : eop n al ps = some vs) (h : P.built t vs = some l.toArray) : (execOp (Fa fr al).eval ⟨dst, .build t ps.toArray, ty, pos, af, g⟩).run P w = .ok (.value (.agg l.toArray)) w := by
  have e := eop_eval (fr := fr) hx
  have e2 : (ps.toArray.map fun (p : Nat × Operand) => (p.1, (Fa fr al).eval p.2)) = vs.toArray := by simp [e]
  have := run_build (P := P) w t vs.toArray l.toArray (by simpa using h)
  simp only [execOp]
  simp only [Sem.run_bind, Sem.run_pure, e2, this, Result.andThen_ok]

/-! ### Returning -/
theorem ret1 {fn : Func} {R : Ending → World → Prop} {t : Nat} {v : Value} (hr : fn.results = #[.tmp t]) (hv : lk n al t = some v) (h : R (.returned v) w) : bodyPost P fn R .ret (Fa fr al) w :=
  ⟨rfl, v, by simp only [results, hr]; simp [Fa, lk_pa fr al t v hv], h⟩
theorem ret1n {fn : Func} {R : Ending → World → Prop} {t : Nat} {v : Value} (hr : fn.results = #[.tmp t]) (hv : lk n al t = some v) (h : R (.returned v) w) : bodyPost P fn R .normal (Fa fr al) w :=
  ⟨rfl, v, by simp only [results, hr]; simp [Fa, lk_pa fr al t v hv], h⟩
theorem ret2 {fn : Func} {R : Ending → World → Prop} {t s : Nat} {v u : Value} (hr : fn.results = #[.tmp t, .tmp s]) (hv : lk n al t = some v) (hu : lk n al s = some u) (h : R (.returned (.tuple #[v, u])) w) : bodyPost P fn R .ret (Fa fr al) w :=
  ⟨rfl, _, by simp only [results, hr]; simp [Fa, lk_pa fr al t v hv, lk_pa fr al s u hu], h⟩
theorem retc {fn : Func} {R : Ending → World → Prop} {p : Nat} {t s : TypeId} {b : Nat} {l : List Value} (hr : fn.results = #[.cell p t]) (hv : lk n al p = some (.pointer (some ⟨b, 0, none⟩))) (ht : TyR P t s) (hl : l.length = s) (hm : w.rangeAt b 0 l) (h : R (.returned (.agg l.toArray)) w) : bodyPost P fn R .ret (Fa fr al) w := by
  obtain ⟨d, h1, h2, h3⟩ := ht
  refine ⟨rfl, .agg l.toArray, ?_, h⟩
  have := run_loadVar_mid (P := P) w b 0 t l d hm h1 h2 (by rw [h3, hl])
  simp only [results, hr]
  simp [Fa, lk_pa fr al p _ hv, asAddr, this]
end

/-! ### Where code ends -/
section
variable {Q : Exit → Act → World → Prop} {next : Act → World → Prop} {a : Act} {w : World} {i j : Nat}
theorem nT (h : next a w) : Exit.then next Q .normal a w := h
theorem nB (h : Q .normal a w) : Exit.inBlock i Q .normal a w := h
theorem eT (h : Q (.exit i) a w) : Exit.then next Q (.exit i) a w := h
theorem eB (h : Q .normal a w) : Exit.inBlock i Q (.exit i) a w := by simp only [Exit.inBlock, if_true]; exact h
theorem eN (hn : i ≠ j) (h : Q (.exit i) a w) : Exit.inBlock j Q (.exit i) a w := by simp only [Exit.inBlock, if_neg hn]; exact h
theorem rT (h : Q .ret a w) : Exit.then next Q .ret a w := h
theorem rB (h : Q .ret a w) : Exit.inBlock i Q .ret a w := h
end
/-! ### A region that draws its order: 'k' is the last of it, behind which S need not hold -/
section
variable {P : Program} {ops : Array Oper} {Q : Exit → Act → World → Prop} {S : World → Prop}
def anyK (P : Program) (ops : Array Oper) (Q : Exit → Act → World → Prop) (S : World → Prop) (k : Nat) : Nat → Array Bool → Act → World → Prop
  | 0, l, a, w => Region.ready .any ops l = [] ∧ Q .normal a w
  | f + 1, l, a, w => (Region.ready .any ops l = [] → Q .normal a w) ∧
    ∀ i ∈ Region.ready .any ops l, wpOp P ops Q i (fun a' w' => (i = k ∨ S w') ∧ anyK P ops Q S k f (l.setIfInBounds i true) a' w') a w
theorem any_of {k : Nat} : ∀ (f : Nat) (l : Array Bool) (a : Act) (w : World), anyK P ops Q S k f l a w → wpAny P .any ops Q f l a w
  | 0, _, _, _, h => h
  | f + 1, _, _, _, h => ⟨h.1, fun i hi => wpOp_mono (fun a' w' h' => any_of f _ a' w' h'.2) (h.2 i hi)⟩
def waits (ops : Array Oper) (k i : Nat) : Bool := match ops[k]? with
  | none => true
  | some o => o.after.any fun e => Region.binds .any e && e.on == i
theorem anyK_first {k i : Nat} {oi : Oper} {v : Value} (hi : ops[i]? = some oi) (hs : Region.noSelect ops = true) (hw : waits ops k i = true)
    (hQ : ∀ c a w, Q (.panic c) (a.put oi.dst v) w → Q (.panic c) a w) :
    ∀ (f : Nat) (l : Array Bool) (a : Act) (w : World),
      (∀ j oj, ops[j]? = some oj → j ≠ i → l.getD j true = false → (∀ e ∈ oj.after, Region.binds .any e = true → e.on ≠ i) → oi.apart ops oj = true) →
      i ∈ Region.ready .any ops l → YieldsIf P ops S oi v a → S w →
      anyK P ops Q S k f (l.setIfInBounds i true) (a.put oi.dst v) w → anyK P ops Q S k (f + 1) l a w := by
  intro f
  have hsel := Region.noSelect_spec hs
  induction f with
  | zero =>
    intro l a w _ hr hy hS H
    refine ⟨fun h => (by rw [h] at hr; cases hr), fun j hj => ?_⟩
    by_cases hji : j = i
    · subst hji; exact hy.wpOp hi hS ⟨.inr hS, H⟩
    · have := ready_mono hj hji
      rw [H.1] at this
      cases this
  | succ f ih =>
    intro l a w hfree hr hy hS H
    refine ⟨fun h => (by rw [h] at hr; cases hr), fun j hj => ?_⟩
    by_cases hji : j = i
    · subst hji; exact hy.wpOp hi hS ⟨.inr hS, H⟩
    · have h1 := H.2 j (ready_mono hj hji)
      obtain ⟨hjun, oj, hoj, hall⟩ := mem_ready.1 hj
      have hiun := (mem_ready.1 hr).1
      have hnot : ∀ e ∈ oj.after, Region.binds .any e = true → e.on ≠ i := fun e he hb heq => by
        have h1 := hall e he hb
        rw [heq] at h1
        rcases Nat.lt_or_ge i l.size with h' | h'
        · simp [h'] at hiun h1; rw [hiun] at h1; cases h1
        · simp [Array.getElem?_eq_none h'] at h1
      have hjk : j ≠ k := fun e => by
        subst e
        unfold waits at hw
        rw [hoj] at hw
        obtain ⟨e, he, hb⟩ := Array.any_eq_true'.1 hw
        rw [Bool.and_eq_true] at hb
        exact hnot e he hb.1 (by simpa using hb.2)
      have h2 := wpOp_putIf hoj (hfree j oj hoj hji hjun hnot) (fun cs b => hsel i oi cs b hi) (fun cs b => hsel j oj cs b hoj) hQ hy h1
      have hfree' : ∀ m om, ops[m]? = some om → m ≠ i → (l.setIfInBounds j true).getD m true = false →
          (∀ e ∈ om.after, Region.binds .any e = true → e.on ≠ i) → oi.apart ops om = true := fun m om hm hmi hun hno => by
        refine hfree m om hm hmi ?_ hno
        by_cases hjm : j = m
        · subst hjm; exact hjun
        · rw [getD_set_ne true hjm] at hun; exact hun
      refine wpOp_mono (fun a' w' h3 => ?_) h2
      have hS' : S w' := h3.2.1.resolve_left hjk
      refine ⟨.inr hS', ih (l.setIfInBounds j true) a' w' hfree' (ready_mono hr (Ne.symm hji)) h3.1 hS' ?_⟩
      rw [Array.setIfInBounds_comm _ _ hji]
      exact h3.2.2
/-- 'wpOp', shut. -/
structure Wo (P : Program) (ops : Array Oper) (Q : Exit → Act → World → Prop) (i : Nat) (K : Act → World → Prop) (a : Act) (w : World) : Prop where
  out : wpOp P ops Q i K a w
variable {n : Nat} {fr : Fr n} {al : List (Nat × Value)} {w : World}
/-- Begin. -/
theorem dr {id : Nat} {l : List Oper} (k : Nat) (S : World → Prop) (hm : P.follows .mixedOrders = true)
    (h : anyK P l.toArray Q S k l.length (Array.replicate l.length false) (Fa fr al) w.drew) : (Code.region id l.toArray true).wp P Q (Fa fr al) w :=
  wp_region_any hm (by simpa using any_of _ _ _ _ h)
theorem drg {id : Nat} {l : List Oper} (k : Nat) (S : World → World → Prop) (hm : P.follows .mixedOrders = true)
    (h : ∀ w', Rel NoC w w' → anyK P l.toArray Q (S w') k l.length (Array.replicate l.length false) (Fa fr al) w') : (Code.region id l.toArray true).wp P Q (Fa fr al) w :=
  dr k (S w.drew) hm (h _ (Rel.refl _ _).drew)
/-- Operation i yields its value wherever S holds: it is taken first. -/
theorem dt {k i f d : Nat} {oi : Oper} {v : Value} {l : Array Bool} (hi : ops[i]? = some oi) (hs : Region.noSelect ops = true) (hf : Region.free .any ops l i = true) (hr : (Region.ready .any ops l).contains i = true) (hw : waits ops k i = true)
    (hQ : ∀ c a w u, Q (.panic c) (a.put (some u) v) w → Q (.panic c) a w) (hd : oi.dst = some d) (hwa : Region.wanted oi (yielded ops (Fa fr al).tmps) = true)
    (hy : ∀ w, S w → (execOp (Fa fr al).eval oi).run P w = .ok (.value v) w) (hS : S w) (h : anyK P ops Q S k f (l.setIfInBounds i true) (Fa fr ((d, v) :: al)) w) : anyK P ops Q S k (f + 1) l (Fa fr al) w :=
  anyK_first hi hs hw (fun c a w => by rw [hd]; exact hQ c a w d) f l (Fa fr al) w (Region.free_spec hi hf) (by simpa using hr) (.inl ⟨hwa, hy⟩) hS (by rw [hd]; exact h)
/-- Operation i is passed over. -/
theorem dp {k i f d : Nat} {oi : Oper} {l : Array Bool} (hi : ops[i]? = some oi) (hs : Region.noSelect ops = true) (hf : Region.free .any ops l i = true) (hr : (Region.ready .any ops l).contains i = true) (hw : waits ops k i = true)
    (hQ : ∀ c a w u, Q (.panic c) (a.put (some u) undef) w → Q (.panic c) a w) (hd : oi.dst = some d) (hwa : Region.wanted oi (yielded ops (Fa fr al).tmps) = false)
    (hS : S w) (h : anyK P ops Q S k f (l.setIfInBounds i true) (Fa fr ((d, undef) :: al)) w) : anyK P ops Q S k (f + 1) l (Fa fr al) w :=
  anyK_first hi hs hw (fun c a w => by rw [hd]; exact hQ c a w d) f l (Fa fr al) w (Region.free_spec hi hf) (by simpa using hr) (.inr ⟨hwa, rfl⟩) hS (by rw [hd]; exact h)
/-- Whichever may come up. -/
theorem da {k f : Nat} {l : Array Bool} {rs : List Nat} {a : Act} (hr : Region.ready .any ops l = rs) (hne : rs ≠ [])
    (h : ∀ i ∈ rs, Wo P ops Q i (fun a' w' => (i = k ∨ S w') ∧ anyK P ops Q S k f (l.setIfInBounds i true) a' w') a w) : anyK P ops Q S k (f + 1) l a w :=
  ⟨fun h0 => absurd (hr ▸ h0) hne, hr ▸ fun i hi => (h i hi).out⟩
theorem da1 {k f i : Nat} {l : Array Bool} {a : Act} (hr : Region.ready .any ops l = [i])
    (h : Wo P ops Q i (fun a' w' => (i = k ∨ S w') ∧ anyK P ops Q S k f (l.setIfInBounds i true) a' w') a w) : anyK P ops Q S k (f + 1) l a w :=
  da hr (by simp) (fun j hj => by rw [List.mem_singleton] at hj; subst hj; exact h)
theorem dz {k f : Nat} {l : Array Bool} {a : Act} (hr : Region.ready .any ops l = []) (h : Q .normal a w) : anyK P ops Q S k f l a w := by
  cases f with
  | zero => exact ⟨hr, h⟩
  | succ f => exact ⟨fun _ => h, by rw [hr]; simp⟩
theorem wv {i d : Nat} {o : Oper} {v : Value} {K : Act → World → Prop} {w' : World} (hi : ops[i]? = some o) (hwa : Region.wanted o (yielded ops (Fa fr al).tmps) = true) (hd : o.dst = some d) (hr : (execOp (Fa fr al).eval o).run P w = .ok (.value v) w') (h : K (Fa fr ((d, v) :: al)) w') : Wo P ops Q i K (Fa fr al) w := by
  constructor
  unfold wpOp
  simp only [hi, hwa, if_true]
  left
  unfold Oper.wp
  rw [hr]
  show K ((Fa fr al).put o.dst v) w'
  rw [hd]
  exact h
theorem wu {i : Nat} {o : Oper} {K : Act → World → Prop} {w' : World} (hi : ops[i]? = some o) (hwa : Region.wanted o (yielded ops (Fa fr al).tmps) = true) (hd : o.dst = none) (hr : (execOp (Fa fr al).eval o).run P w = .ok .skip w') (h : K (Fa fr al) w') : Wo P ops Q i K (Fa fr al) w := by
  constructor
  unfold wpOp
  simp only [hi, hwa, if_true]
  left
  unfold Oper.wp
  rw [hr]
  show K ((Fa fr al).put o.dst undef) w'
  rw [hd]
  exact h
theorem wc {i d : Nat} {o : Oper} {f : FuncId} {args : List Value} {R : Ending → World → Prop} {K : Act → World → Prop} (hi : ops[i]? = some o) (hwa : Region.wanted o (yielded ops (Fa fr al).tmps) = true) (hd : o.dst = some d) (hr : (execOp (Fa fr al).eval o).run P w = .ok (.enter f args.toArray) w) (hc : Calls P f args.toArray w R) (h : ∀ e w', R e w' → ∃ v, e = .returned v ∧ K (Fa fr ((d, v) :: al)) w') : Wo P ops Q i K (Fa fr al) w := by
  constructor
  unfold wpOp
  simp only [hi, hwa, if_true]
  left
  unfold Oper.wp
  rw [hr]
  refine Calls.mono hc (fun e w2 he => ?_)
  obtain ⟨v, rfl, hk⟩ := h e w2 he
  show K ((Fa fr al).put o.dst v) w2
  rw [hd]
  exact hk
end
end Go.Proofs.YtahggnlmabdbbaaDoor.Sx
