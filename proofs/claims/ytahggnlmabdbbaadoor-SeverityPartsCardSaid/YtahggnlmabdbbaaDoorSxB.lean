import Derived.Test.YtahggnlmabdbbaaDoorSxA
import Derived.Deep.AppendLies
import Derived.Laws.CopyOwn
import Derived.Laws.OwnMore
import Derived.OwnWalk
namespace Go.Proofs.YtahggnlmabdbbaaDoor.Sx
open Go.RowKit Go.Shelf
set_option linter.unusedVariables false
set_option linter.unusedSimpArgs false

/-! ### How worlds follow each other: blocks outside 'c' stay -/
structure Rel (c : Nat → Prop) (w w' : World) : Prop where
  os : w'.os = w.os
  tape : w'.tape = w.tape
  output : w'.output = w.output
  size : w.heap.size ≤ w'.heap.size
  block : ∀ k, k < w.heap.size → ¬ c k → w'.heap[k]? = w.heap[k]?
def NoC : Nat → Prop := fun _ => False
theorem Rel.refl (c : Nat → Prop) (w : World) : Rel c w w := ⟨rfl, rfl, rfl, Nat.le_refl _, fun _ _ _ => rfl⟩
theorem Rel.trans {c c' d : Nat → Prop} {a b e : World} (h : Rel c a b) (k : Rel c' b e) (h1 : ∀ x, x < a.heap.size → c x → d x) (h2 : ∀ x, x < a.heap.size → c' x → d x) : Rel d a e :=
  ⟨k.os.trans h.os, k.tape.trans h.tape, k.output.trans h.output, Nat.le_trans h.size k.size, fun x hx hn => (k.block x (Nat.lt_of_lt_of_le hx h.size) (fun e => hn (h2 x hx e))).trans (h.block x hx (fun e => hn (h1 x hx e)))⟩
theorem Rel.then {c c' : Nat → Prop} {a b e : World} (h : Rel c a b) (k : Rel c' b e) (h2 : ∀ x, x < a.heap.size → c' x → c x) : Rel c a e := h.trans k (fun _ _ h => h) h2
theorem Rel.mono {c c' : Nat → Prop} {a b : World} (h : Rel c a b) (hc : ∀ x, x < a.heap.size → c x → c' x) : Rel c' a b := ⟨h.os, h.tape, h.output, h.size, fun x hx hn => h.block x hx (fun e => hn (hc x hx e))⟩
theorem Rel.ofB {a b : World} {B : Nat} (h : Below B a b) : Rel (fun k => B ≤ k) a b := ⟨h.os, h.tape, h.output, h.size, fun x _ hn => h.block x (Nat.lt_of_not_le hn)⟩
theorem Rel.of0 {a b : World} (h : Below a.heap.size a b) : Rel NoC a b := ⟨h.os, h.tape, h.output, h.size, fun x hx _ => h.block x hx⟩
theorem Rel.ofG {a b : World} {row : Option Nat} (h : a.grownBy b row) : Rel (fun k => some k = row) a b := ⟨h.os, h.tape, h.output, h.size, fun x hx hn => h.block x hx hn⟩
theorem Rel.ofT {a b : World} {T : Nat} (h : a.grownBy b (some T)) : Rel (fun k => k = T) a b := ⟨h.os, h.tape, h.output, h.size, fun x hx hn => h.block x hx (fun e => hn (by injection e))⟩
theorem Rel.toB {c : Nat → Prop} {a b : World} {B : Nat} (h : Rel c a b) (hB : B ≤ a.heap.size) (hc : ∀ x, x < B → ¬ c x) : Below B a b := ⟨h.os, h.tape, h.output, h.size, fun x hx => h.block x (Nat.lt_of_lt_of_le hx hB) (hc x hx)⟩
theorem Rel.toG {c : Nat → Prop} {a b : World} {row : Option Nat} (h : Rel c a b) (hc : ∀ x, x < a.heap.size → c x → some x = row) : a.grownBy b row := ⟨h.os, h.tape, h.output, h.size, fun x hx hn => h.block x hx (fun e => hn (hc x hx e))⟩
theorem Rel.toT {a b : World} {T : Nat} (h : Rel (fun x => x = T ∨ a.heap.size ≤ x) a b) : a.grownBy b (some T) := h.toG (fun x hx hc => by
    rcases hc with hc | hc
    · exact congrArg some hc
    · exact absurd hc (by omega))
theorem Rel.toB0 {a b : World} (h : Rel (fun x => a.heap.size ≤ x) a b) : Below a.heap.size a b := h.toB (Nat.le_refl _) (fun x hx => by show ¬ (_ ≤ _); omega)
theorem Rel.drew {c : Nat → Prop} {a b : World} (h : Rel c a b) : Rel c a b.drew := ⟨h.os, h.tape, h.output, h.size, h.block⟩
theorem Rel.undrew {c : Nat → Prop} {a b : World} (h : Rel c a.drew b) : Rel c a b := ⟨h.os, h.tape, h.output, h.size, h.block⟩
theorem Rel.alloc (a : World) (o : Obj) : Rel NoC a (a.alloc o) := Rel.of0 ((Below.refl _ _).alloc (Nat.le_refl _) _)
theorem Rel.set (a : World) (g i : Nat) (v : Value) : Rel (fun k => k = g) a (a.setCell ⟨g, i, none⟩ v) :=
  ⟨rfl, rfl, rfl, by simp [World.setCell], fun k _ hne => Below.heap_setCell _ _ _ _ hne⟩

/-! ### What is known of memory -/
/-- A block known whole. -/
def Bx (w : World) (b : Nat) (l : List Value) (t : TypeId) : Prop := w.heap[b]? = some (.cells l.toArray t (0, 0))
theorem Bx.lt {w : World} {b : Nat} {l : List Value} {t : TypeId} (h : Bx w b l t) : b < w.heap.size := (Array.getElem?_eq_some_iff.1 h).1
theorem Bx.rel {c : Nat → Prop} {w w' : World} {b : Nat} {l : List Value} {t : TypeId} (h : Bx w b l t) (r : Rel c w w') (hc : ¬ c b) : Bx w' b l t := (r.block b h.lt hc).trans h
theorem Bx.nw {w w' : World} {b : Nat} {l : List Value} {t : TypeId} (h : Bx w b l t) (r : Rel NoC w w') : Bx w' b l t := h.rel r (fun h => h)
theorem Bx.ch {w w' : World} {b g : Nat} {l : List Value} {t : TypeId} (h : Bx w b l t) (r : Rel (fun k => k = g) w w') (hn : b ≠ g) : Bx w' b l t := h.rel r hn
/-- Some cells of a block. -/
structure Me (w : World) (b o : Nat) (l : List Value) : Prop where
  lt : b < w.heap.size
  seg : w.rangeAt b o l
theorem Me.rel {c : Nat → Prop} {w w' : World} {b o : Nat} {l : List Value} (h : Me w b o l) (r : Rel c w w') (hc : ¬ c b) : Me w' b o l :=
  ⟨Nat.lt_of_lt_of_le h.lt r.size, fun j v hj => (World.cell?_of_block (w := w) (a := ⟨b, o + j, none⟩) (r.block b h.lt hc)).trans (h.seg j v hj)⟩
theorem Me.nw {w w' : World} {b o : Nat} {l : List Value} (h : Me w b o l) (r : Rel NoC w w') : Me w' b o l := h.rel r (fun h => h)
theorem Me.ch {w w' : World} {b o g : Nat} {l : List Value} (h : Me w b o l) (r : Rel (fun k => k = g) w w') (hn : b ≠ g) : Me w' b o l := h.rel r hn
theorem Me.one {w : World} {b o : Nat} {v : Value} (hb : b < w.heap.size) (h : w.cell? ⟨b, o, none⟩ = some v) : Me w b o [v] := ⟨hb, fun j u hj => by
  match j with
  | 0 => simp at hj; subst hj; exact h
  | j + 1 => simp at hj⟩
/-- Something that hangs on the blocks from lo to hi alone. -/
structure Has (w : World) (lo hi : Nat) (F : World → Prop) : Prop where
  le : hi ≤ w.heap.size
  ok : F w
  st : ∀ w', hi ≤ w'.heap.size → (∀ b, lo ≤ b → b < hi → w'.heap[b]? = w.heap[b]?) → F w'
theorem Has.rel {c : Nat → Prop} {w w' : World} {lo hi : Nat} {F : World → Prop} (h : Has w lo hi F) (r : Rel c w w') (hc : ∀ b, lo ≤ b → b < hi → ¬ c b) : Has w' lo hi F := by
  have hb : ∀ b, lo ≤ b → b < hi → w'.heap[b]? = w.heap[b]? := fun b h1 h2 => r.block b (Nat.lt_of_lt_of_le h2 h.le) (hc b h1 h2)
  have hs := Nat.le_trans h.le r.size
  exact ⟨hs, h.st w' hs hb, fun w2 h0 h2 => h.st w2 h0 (fun b h3 h4 => (h2 b h3 h4).trans (hb b h3 h4))⟩
theorem Has.nw {w w' : World} {lo hi : Nat} {F : World → Prop} (h : Has w lo hi F) (r : Rel NoC w w') : Has w' lo hi F := h.rel r (fun _ _ _ h => h)
theorem Has.ch {w w' : World} {lo hi g : Nat} {F : World → Prop} (h : Has w lo hi F) (r : Rel (fun k => k = g) w w') (hn : g < lo ∨ hi ≤ g) : Has w' lo hi F := h.rel r (fun b h1 h2 h3 => by omega)
theorem Has.map {w : World} {lo hi : Nat} {F G : World → Prop} (h : Has w lo hi F) (hm : ∀ w, F w → G w) : Has w lo hi G := ⟨h.le, hm _ h.ok, fun w' h0 hb => hm _ (h.st w' h0 hb)⟩
theorem Has.and {w : World} {lo hi : Nat} {F G : World → Prop} (h : Has w lo hi F) (k : Has w lo hi G) : Has w lo hi (fun w => F w ∧ G w) := ⟨h.le, ⟨h.ok, k.ok⟩, fun w' h0 hb => ⟨h.st w' h0 hb, k.st w' h0 hb⟩⟩
theorem Has.wide {w : World} {lo hi lo' hi' : Nat} {F : World → Prop} (h : Has w lo hi F) (h1 : lo' ≤ lo) (h2 : hi ≤ hi') (h3 : hi' ≤ w.heap.size) : Has w lo' hi' F :=
  ⟨h3, h.ok, fun w' h0 hb => h.st w' (by omega) (fun b ha hb' => hb b (by omega) (by omega))⟩
theorem Has.old {w w' : World} {lo : Nat} {F : World → Prop} (h : Has w lo w.heap.size F) (r : Rel (fun x => w.heap.size ≤ x) w w') : Has w' lo w.heap.size F := h.rel r (fun b _ h2 h3 => absurd h3 (by show ¬ (_ ≤ _); omega))
theorem Has.own {w : World} {base e s n : Nat} {v : Value} {xs : List Value} (h : w.ownsRow base e s v n xs) : Has w base w.heap.size (fun w => w.ownsRow base e s v n xs) := by
  refine ⟨Nat.le_refl _, h, fun w' h0 hb => ⟨h.1, ?_⟩⟩
  rcases h.2 with h2 | ⟨g, cap, cur, h1, h2, h3, h4⟩
  · exact .inl h2
  · exact .inr ⟨g, cap, cur, h1, h2, (hb g h2 (Array.getElem?_eq_some_iff.1 h3).1).trans h3, h4⟩

/-! ### The steps of a region -/
section
variable {P : Program} {ops : Array Oper} {Q : Exit → Act → World → Prop} {rest : List Oper} {o : Oper} {w w' : World} {n : Nat} {fr : Fr n} {al : List (Nat × Value)}

theorem wnt0 (hg : o.guard = none) : Region.wanted o (yielded ops (Fa fr al).tmps) = true := by simp [Region.wanted, hg]
theorem wnt {j : Nat} {b want : Bool} {oj : Oper} {dj : Nat} (hg : o.guard = some (j, want)) (hj : ops[j]? = some oj) (hdj : oj.dst = some dj) (hb : lk n al dj = some (.bool b)) :
    Region.wanted o (yielded ops (Fa fr al).tmps) = (b == want) := by
  unfold Region.wanted yielded
  rw [hg]
  simp only [hj, hdj, Option.bind_some]
  have := lk_pa fr al dj _ hb
  unfold Fa
  simp only [this]
  cases b <;> cases want <;> rfl
/-- A guarded operation that is wanted; that is not. -/
theorem wnt1 {j : Nat} {b b0 want : Bool} {oj : Oper} {dj : Nat} (hg : o.guard = some (j, want)) (hj : ops[j]? = some oj) (hdj : oj.dst = some dj) (hb : lk n al dj = some (.bool b)) (hv : b = b0) (he : (b0 == want) = true) :
    Region.wanted o (yielded ops (Fa fr al).tmps) = true := by rw [wnt hg hj hdj hb, hv, he]
theorem wntF {j : Nat} {b b0 want : Bool} {oj : Oper} {dj : Nat} (hg : o.guard = some (j, want)) (hj : ops[j]? = some oj) (hdj : oj.dst = some dj) (hb : lk n al dj = some (.bool b)) (hv : b = b0) (he : (b0 == want) = false) :
    Region.wanted o (yielded ops (Fa fr al).tmps) = false := by rw [wnt hg hj hdj hb, hv, he]
theorem wntU {j : Nat} {want : Bool} {oj : Oper} {dj : Nat} (hg : o.guard = some (j, want)) (hj : ops[j]? = some oj) (hdj : oj.dst = some dj) (hb : lk n al dj = some undef) :
    Region.wanted o (yielded ops (Fa fr al).tmps) = false := by
  unfold Region.wanted yielded
  rw [hg]
  simp only [hj, hdj, Option.bind_some]
  have := lk_pa fr al dj _ hb
  unfold Fa
  simp only [this]
  rfl
theorem sv {v : Value} {d : Nat} (hr : (execOp (Fa fr al).eval o).run P w = .ok (.value v) w') (hd : o.dst = some d) (hw : Region.wanted o (yielded ops (Fa fr al).tmps) = true)
    (k : Wl P ops Q rest (Fa fr ((d, v) :: al)) w') : Wl P ops Q (o :: rest) (Fa fr al) w :=
  wstep fun K hK => by
    rw [if_pos hw]
    unfold Oper.wp
    rw [hr]
    show K ((Fa fr al).put o.dst v) w'
    rw [hd]
    exact hK _ _ k
theorem su (hr : (execOp (Fa fr al).eval o).run P w = .ok .skip w') (hd : o.dst = none) (hw : Region.wanted o (yielded ops (Fa fr al).tmps) = true)
    (k : Wl P ops Q rest (Fa fr al) w') : Wl P ops Q (o :: rest) (Fa fr al) w :=
  wstep fun K hK => by
    rw [if_pos hw]
    unfold Oper.wp
    rw [hr]
    show K ((Fa fr al).put o.dst undef) w'
    rw [hd]
    exact hK _ _ k
theorem sc {f : FuncId} {args : List Value} {R : Ending → World → Prop} {d : Nat} (hr : (execOp (Fa fr al).eval o).run P w = .ok (.enter f args.toArray) w) (hd : o.dst = some d) (hw : Region.wanted o (yielded ops (Fa fr al).tmps) = true)
    (hc : Calls P f args.toArray w R) (k : ∀ e w', R e w' → ∃ v, e = .returned v ∧ Wl P ops Q rest (Fa fr ((d, v) :: al)) w') : Wl P ops Q (o :: rest) (Fa fr al) w :=
  wstep fun K hK => by
    rw [if_pos hw]
    unfold Oper.wp
    rw [hr]
    refine Calls.mono hc (fun e w2 he => ?_)
    obtain ⟨v, rfl, hk⟩ := k e w2 he
    show K ((Fa fr al).put o.dst v) w2
    rw [hd]
    exact hK _ _ hk
theorem sg {d : Nat} (hw : Region.wanted o (yielded ops (Fa fr al).tmps) = false) (hd : o.dst = some d)
    (k : Wl P ops Q rest (Fa fr ((d, undef) :: al)) w) : Wl P ops Q (o :: rest) (Fa fr al) w := by
  refine wstep fun K hK => ?_
  rw [if_neg (by rw [hw]; decide)]
  show K ((Fa fr al).put o.dst undef) w
  rw [hd]
  exact hK _ _ k
end

/-! ### What the operations yield -/
def nth : List Value → Nat → Option Value
  | [], _ => none
  | x :: _, 0 => some x
  | _ :: l, k + 1 => nth l k
theorem nth_get : ∀ (l : List Value) (k : Nat), nth l k = l[k]?
  | [], _ => by simp [nth]
  | x :: _, 0 => by simp [nth]
  | _ :: l, k + 1 => by simp [nth, nth_get l k]
def upd : List Value → Nat → Value → List Value
  | [], _, _ => []
  | _ :: l, 0, v => v :: l
  | x :: l, k + 1, v => x :: upd l k v
theorem upd_set : ∀ (l : List Value) (k : Nat) (v : Value), upd l k v = l.set k v
  | [], _, _ => by simp [upd]
  | x :: _, 0, v => by simp [upd]
  | _ :: l, k + 1, v => by simp [upd, upd_set l k v]
theorem Bx.seg {w : World} {b : Nat} {l : List Value} {t : TypeId} (h : Bx w b l t) : w.rangeAt b 0 l := fun j v hj => by
  rw [Nat.zero_add, cell_of_row _ _ _ _ _ _ h]
  simpa using hj

section
variable {P : Program} {w : World} {n : Nat} {fr : Fr n} {al : List (Nat × Value)} {dst : Option Nat} {ty : TypeId} {pos : String} {af : Array Edge} {g : Option (Nat × Bool)}
theorem r_mv {x : Operand} {v : Value} (hx : eo n al x = some v) : (execOp (Fa fr al).eval ⟨dst, .move x, ty, pos, af, g⟩).run P w = .ok (.value v) w := by
  simp only [execOp, eo_eval hx]; rfl
theorem r_as {x : Operand} {v : Value} (hx : eo n al x = some v) : (execOp (Fa fr al).eval ⟨dst, .assign x, ty, pos, af, g⟩).run P w = .ok (.value v) w := by
  simp only [execOp, eo_eval hx]; rfl
theorem r_pkT {c x y : Operand} {v : Value} {b : Bool} (hc : eo n al c = some (.bool b)) (hb : b = true) (hx : eo n al x = some v) : (execOp (Fa fr al).eval ⟨dst, .pick c x y, ty, pos, af, g⟩).run P w = .ok (.value v) w := by
  simp only [execOp, eo_eval hc, eo_eval hx, hb]; simp [asBool]
theorem r_pkF {c x y : Operand} {v : Value} {b : Bool} (hc : eo n al c = some (.bool b)) (hb : b = false) (hx : eo n al y = some v) : (execOp (Fa fr al).eval ⟨dst, .pick c x y, ty, pos, af, g⟩).run P w = .ok (.value v) w := by
  simp only [execOp, eo_eval hc, eo_eval hx, hb]; simp [asBool]
theorem r_box {t : TypeId} {x : Operand} {v : Value} {l : List Value} (hx : eo n al x = some v) (hl : v.cells = l.toArray) : (execOp (Fa fr al).eval ⟨dst, .box t x, ty, pos, af, g⟩).run P w = .ok (.value (.pointer (some ⟨w.heap.size, 0, none⟩))) (w.alloc (.cells l.toArray t)) := by
  simp only [execOp, eo_eval hx]; simp [Instr.box, newVar, newRow, hl]
theorem r_all {t : TypeId} {z : Value} {l : List Value} {s b : Nat} (hz : (P.info? t).map (fun i => (i.zero, i.size, i.bytes)) = some (some z, s, b)) (hl : z.cells = l.toArray) : (execOp (Fa fr al).eval ⟨dst, .alloc t, ty, pos, af, g⟩).run P w = .ok (.value (.pointer (some ⟨w.heap.size, 0, none⟩))) (w.alloc (.cells l.toArray t)) := by
  cases hi : P.info? t with
  | none => rw [hi] at hz; cases hz
  | some i =>
    rw [hi] at hz
    simp at hz
    simp only [execOp]; simp [Instr.alloc, zeroValue, typeInfo, hi, hz.1, newVar, newRow, hl]
/-- A field of a struct lies so far behind its head. -/
def Fo (P : Program) (s f off : Nat) : Prop := ∀ (a : Addr) (w : World), (Instr.fieldAt s (.pointer (some a)) f).run P w = .ok (.pointer (some (a.add off))) w
theorem r_fa {s : TypeId} {x : Operand} {f b o off : Nat} (hf : Fo P s f off) (hx : eo n al x = some (.pointer (some ⟨b, o, none⟩))) : (execOp (Fa fr al).eval ⟨dst, .fieldAddr s x f, ty, pos, af, g⟩).run P w = .ok (.value (.pointer (some ⟨b, o + off, none⟩))) w := by
  simp only [execOp, eo_eval hx]
  have := hf ⟨b, o, none⟩ w
  rw [Addr.add_mid] at this
  simp only [Sem.run_bind, Sem.run_pure, this, Result.andThen_ok]
/-- Elements of a slice type lie s cells apart. -/
def Ix (P : Program) (t s : Nat) : Prop := ∀ (b o n c : Nat) (i : Int) (w : World), 0 ≤ i → i < n → (Instr.indexAt t (.slice (some ⟨b, o, none⟩) n c) (.int .i64 i)).run P w = .ok (.pointer (some ⟨b, o + i.toNat * s, none⟩)) w
theorem r_ix {t s : Nat} {x y : Operand} {b o m c k : Nat} (hs : Ix P t s) (hx : eo n al x = some (.slice (some ⟨b, o, none⟩) m c)) (hy : eo n al y = some (.int .i64 (k : Int))) (hk : k < m) : (execOp (Fa fr al).eval ⟨dst, .indexAddr t x y, ty, pos, af, g⟩).run P w = .ok (.value (.pointer (some ⟨b, o + k * s, none⟩))) w := by
  simp only [execOp, eo_eval hx, eo_eval hy]
  have := hs b o m c (k : Int) w (by omega) (by omega)
  simp only [Sem.run_bind, Sem.run_pure, this, Result.andThen_ok, Int.toNat_natCast]
theorem r_ix1 {t : Nat} {x y : Operand} {b o m c k : Nat} (hs : Ix P t 1) (hx : eo n al x = some (.slice (some ⟨b, o, none⟩) m c)) (hy : eo n al y = some (.int .i64 (k : Int))) (hk : k < m) : (execOp (Fa fr al).eval ⟨dst, .indexAddr t x y, ty, pos, af, g⟩).run P w = .ok (.value (.pointer (some ⟨b, o + k, none⟩))) w := by
  simp only [execOp, eo_eval hx, eo_eval hy]
  have := hs b o m c (k : Int) w (by omega) (by omega)
  simp only [Sem.run_bind, Sem.run_pure, this, Result.andThen_ok, Int.toNat_natCast, Nat.mul_one]
theorem r_ixA {t s : Nat} {x y : Operand} {A : Option Addr} {b o m c k : Nat} (hs : Ix P t s) (hx : eo n al x = some (.slice A m c)) (hA : A = some ⟨b, o, none⟩) (hy : eo n al y = some (.int .i64 (k : Int))) (hk : k < m) : (execOp (Fa fr al).eval ⟨dst, .indexAddr t x y, ty, pos, af, g⟩).run P w = .ok (.value (.pointer (some ⟨b, o + k * s, none⟩))) w := by
  subst hA; exact r_ix hs hx hy hk
theorem r_ix1A {t : Nat} {x y : Operand} {A : Option Addr} {b o m c k : Nat} (hs : Ix P t 1) (hx : eo n al x = some (.slice A m c)) (hA : A = some ⟨b, o, none⟩) (hy : eo n al y = some (.int .i64 (k : Int))) (hk : k < m) : (execOp (Fa fr al).eval ⟨dst, .indexAddr t x y, ty, pos, af, g⟩).run P w = .ok (.value (.pointer (some ⟨b, o + k, none⟩))) w := by
  subst hA; exact r_ix1 hs hx hy hk
theorem r_ixi {t s : Nat} {x y : Operand} {A : Option Addr} {b o m c k : Nat} {i : Int} (hs : Ix P t s) (hx : eo n al x = some (.slice A m c)) (hA : A = some ⟨b, o, none⟩) (hy : eo n al y = some (.int .i64 i)) (hi : i = (k : Int)) (hk : k < m) : (execOp (Fa fr al).eval ⟨dst, .indexAddr t x y, ty, pos, af, g⟩).run P w = .ok (.value (.pointer (some ⟨b, o + k * s, none⟩))) w := by
  subst hi; exact r_ixA hs hx hA hy hk
theorem r_ix1i {t : Nat} {x y : Operand} {A : Option Addr} {b o m c k : Nat} {i : Int} (hs : Ix P t 1) (hx : eo n al x = some (.slice A m c)) (hA : A = some ⟨b, o, none⟩) (hy : eo n al y = some (.int .i64 i)) (hi : i = (k : Int)) (hk : k < m) : (execOp (Fa fr al).eval ⟨dst, .indexAddr t x y, ty, pos, af, g⟩).run P w = .ok (.value (.pointer (some ⟨b, o + k, none⟩))) w := by
  subst hi; exact r_ix1A hs hx hA hy hk
/-- A type of one cell; a type of rows. -/
def Ty1 (P : Program) (t : Nat) : Prop := ∀ (a : Addr) (w : World) (v : Value), w.cell? a = some v → (loadVar t a).run P w = .ok v w
def TyR (P : Program) (t s : Nat) : Prop := ∃ d : TypeDesc, P.underlying t = some d ∧ d.isRow = true ∧ (P.info? t).map (·.size) = some s
theorem r_ld {t : TypeId} {x : Operand} {b o j : Nat} {l : List Value} {v : Value} (ht : Ty1 P t) (hx : eo n al x = some (.pointer (some ⟨b, o + j, none⟩))) (hm : w.rangeAt b o l) (hv : nth l j = some v) : (execOp (Fa fr al).eval ⟨dst, .load t x, ty, pos, af, g⟩).run P w = .ok (.value v) w := by
  simp only [execOp, eo_eval hx]
  simp [Instr.loadAt, Instr.sureAddr, ht _ w v (hm j v (by rw [← nth_get]; exact hv))]
theorem r_ld0 {t : TypeId} {x : Operand} {b o : Nat} {l : List Value} {v : Value} (ht : Ty1 P t) (hx : eo n al x = some (.pointer (some ⟨b, o, none⟩))) (hm : w.rangeAt b o l) (hv : nth l 0 = some v) : (execOp (Fa fr al).eval ⟨dst, .load t x, ty, pos, af, g⟩).run P w = .ok (.value v) w := by
  simp only [execOp, eo_eval hx]
  have := ht _ w v (hm 0 v (by rw [← nth_get]; exact hv))
  rw [Nat.add_zero] at this
  simp [Instr.loadAt, Instr.sureAddr, this]
theorem r_ldc {t : TypeId} {x : Operand} {a : Addr} {v : Value} (ht : Ty1 P t) (hx : eo n al x = some (.pointer (some a))) (hv : w.cell? a = some v) : (execOp (Fa fr al).eval ⟨dst, .load t x, ty, pos, af, g⟩).run P w = .ok (.value v) w := by
  simp only [execOp, eo_eval hx]
  simp [Instr.loadAt, Instr.sureAddr, ht _ w v hv]
theorem r_ldr {t s : Nat} {x : Operand} {b o : Nat} {l : List Value} (ht : TyR P t s) (hx : eo n al x = some (.pointer (some ⟨b, o, none⟩))) (hm : w.rangeAt b o l) (hl : l.length = s) : (execOp (Fa fr al).eval ⟨dst, .load t x, ty, pos, af, g⟩).run P w = .ok (.value (.agg l.toArray)) w := by
  obtain ⟨d, h1, h2, h3⟩ := ht
  simp only [execOp, eo_eval hx]
  simp [run_loadAt_mid w b o t l d hm h1 h2 (by rw [h3, hl])]
/-- A struct in the middle of what is known. -/
theorem r_ldr0 {t s : Nat} {x : Operand} {b o j : Nat} {l m : List Value} (ht : TyR P t s) (hx : eo n al x = some (.pointer (some ⟨b, o + j, none⟩))) (hm : w.rangeAt b o l) (hl : m.length = s) (hj : (l.drop j).take s = m) : (execOp (Fa fr al).eval ⟨dst, .load t x, ty, pos, af, g⟩).run P w = .ok (.value (.agg m.toArray)) w :=
  r_ldr ht hx (fun i v hv => by
    rw [← hj] at hv
    have h1 : i < s := by
      have := (List.getElem?_eq_some_iff.1 hv).1
      simp at this; omega
    rw [List.getElem?_take_of_lt h1, List.getElem?_drop] at hv
    have := hm (j + i) v hv
    rwa [← Nat.add_assoc] at this) hl
theorem r_ln {t : TypeId} {x : Operand} {a : Option Addr} {m c : Nat} {e : TypeId} (ht : P.underlying t = some (.slice e)) (hx : eo n al x = some (.slice a m c)) : (execOp (Fa fr al).eval ⟨dst, .call { callee := .builtin .len, args := #[x], argTypes := #[t] }, ty, pos, af, g⟩).run P w = .ok (.value (.int .i64 (m : Int))) w := by
  simp only [execOp, resolve, Array.map, List.map_toArray, List.map_cons, List.map_nil]
  simp [eo_eval hx, invoke, builtin, Builtin.len_, run_underlying ht, goInt]
theorem r_call {f : FuncId} {xs : List Operand} {ts : Array TypeId} {vs : List Value} (hf : Enters P f) (hx : eos n al xs = some vs) : (execOp (Fa fr al).eval ⟨dst, .call { callee := .value (.func f), args := xs.toArray, argTypes := ts }, ty, pos, af, g⟩).run P w = .ok (.enter f vs.toArray) w := by
  have := eos_eval (fr := fr) hx
  simp only [execOp, resolve]
  simp [this, Act.eval, Deferred.ofValue, invoke]
  exact hf _ _
end

end Go.Proofs.YtahggnlmabdbbaaDoor.Sx
