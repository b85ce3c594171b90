import Derived.Test.YtahggnlmabdbbaaDoorSxP
import Derived.Test.YtahggnlmabdbbaaDoorSxM
import Derived.Test.YtahggnlmabdbbaaDoorRtH
namespace Go.Proofs.YtahggnlmabdbbaaDoor.Di
open Go.RowKit Go.Shelf
open Go.Proofs.YtahggnlmabdbbaaDoor.Tp
open Go.Proofs.YtahggnlmabdbbaaDoor.Sx
set_option linter.unusedVariables false
theorem Has.row {w : World} {B s n : Nat} {A : Option Addr} {xs : List Value} (h : Row w B s A n xs) : Has w B w.heap.size (fun w => Row w B s A n xs) :=
  ⟨Nat.le_refl _, h, fun w' h0 hb => ⟨h.len, fun hn => by
    obtain ⟨b, off, e, hB, hlt, hc⟩ := h.mem hn
    exact ⟨b, off, e, hB, Nat.lt_of_lt_of_le hlt h0, fun j u hj => (World.cell?_of_block (w := w) (a := ⟨b, off + j, none⟩) (hb b hB hlt)).trans (hc j u hj)⟩⟩⟩
theorem Has.rl {w : World} {B : Nat} {x : Rt} {v : Vr} (h : RL w B x v) : Has w B w.heap.size (fun w => RL w B x v) :=
  (((Has.row h.r1).and (Has.row h.r2)).and (Has.row h.r3)).map (fun _ h => ⟨h.1.1, h.1.2, h.2⟩)
/-- Onto an own row, from a row that lies somewhere. -/
theorem y_app2 {P : Program} {w : World} {n : Nat} {fr : Fr n} {al : List (Nat × Value)} {dst : Option Nat} {ty : TypeId} {pos : String} {af : Array Edge} {g : Option (Nat × Bool)} {x y : Operand} {t e size bytes base B m c : Nat} {z : Value} {v : Value} {k : Nat} {A : Option Addr} {xs ys : List Value} (hu : P.underlying t = some (.slice e)) (hz : (P.info? e).map (fun i => (i.zero, i.size, i.bytes)) = some (some z, size, bytes)) (hzs : z.cells.size = size) (hpos : 0 < size) (hby : bytes ≤ 1000)
    (hx : eo n al x = some v) (hy : eo n al y = some (.slice A m c)) (hown : w.ownsRow base e size v k xs) (hr : Row w B size A m ys) (h1 : ∀ u ∈ ys, u.oneCell' = true) (hk : k + m ≤ 100000) (hbase : base ≤ w.heap.size) :
    Yl P (Fa fr al) ⟨dst, .call { callee := .builtin .append, args := #[x, y], argTypes := #[t, t] }, ty, pos, af, g⟩ w (fun u w' => ∃ A' c', u = .slice A' (k + m) c' ∧ w'.ownsRow base e size (.slice A' (k + m) c') (k + m) (xs ++ ys) ∧ Rel (fun k => some k = v.ownBlock) w w' ∧ ((Value.slice A' (k + m) c').ownBlock = v.ownBlock ∨ (Value.slice A' (k + m) c').ownBlock = some w.heap.size)) := by
  obtain ⟨i, hi, hz1, hz2, hz3⟩ := info_parts hz
  obtain ⟨v', w', hrun, h2, h3, h4⟩ := app_run (P := P) w base B t ty e i z size bytes hu hi hz1 hz2 hz3 hzs hpos v k xs hown A m c ys hr h1 hk hby hbase
  obtain ⟨A', c', rfl⟩ := own_form h2
  refine .inl ⟨_, w', ?_, A', c', rfl, h2, Rel.ofG h3, h4⟩
  simp only [execOp, resolve]
  simp only [Sem.run_bind, Sem.run_pure, Result.andThen_ok, List.map_toArray, List.map_cons, List.map_nil, eo_eval hx, eo_eval hy, invoke, builtin, hrun]
theorem At2.seg {w : World} {b o : Nat} {x : T2} (h : At2 w b o x) : w.rangeAt b o [.int .i64 x.a, .int .i64 x.b] := fun j v hj => by
  match j with
  | 0 => simp at hj; subst hj; exact h.1
  | 1 => simp at hj; subst hj; exact h.2
  | j + 2 => simp at hj
theorem At3.seg {w : World} {b o : Nat} {x : T3} (h : At3 w b o x) : w.rangeAt b o [.int .i64 x.a, .int .i64 x.b, .int .i64 x.c] := fun j v hj => by
  match j with
  | 0 => simp at hj; subst hj; exact h.1
  | 1 => simp at hj; subst hj; exact h.2.1
  | 2 => simp at hj; subst hj; exact h.2.2
  | j + 3 => simp at hj
theorem At4.seg {w : World} {b o : Nat} {x : T4} (h : At4 w b o x) : w.rangeAt b o [.int .i64 x.a, .int .i64 x.b, .int .i64 x.c, .int .i64 x.d] := fun j v hj => by
  match j with
  | 0 => simp at hj; subst hj; exact h.1
  | 1 => simp at hj; subst hj; exact h.2.1
  | 2 => simp at hj; subst hj; exact h.2.2.1
  | 3 => simp at hj; subst hj; exact h.2.2.2
  | j + 4 => simp at hj
theorem At5.seg {w : World} {b o : Nat} {x : T5} (h : At5 w b o x) : w.rangeAt b o [.int .i64 x.l.a, .int .i64 x.l.b, .int .i64 x.l.c, .int .i64 x.l.d, .int .i64 x.t] := fun j v hj => by
  match j with
  | 0 => simp at hj; subst hj; exact h.1
  | 1 => simp at hj; subst hj; exact h.2.1
  | 2 => simp at hj; subst hj; exact h.2.2.1
  | 3 => simp at hj; subst hj; exact h.2.2.2.1
  | 4 => simp at hj; subst hj; exact h.2.2.2.2
  | j + 5 => simp at hj
theorem same_lit (x y : Int) : (Lit.int .i64 x).sameKey (.int .i64 y) = (x == y) := by
  simp [Lit.sameKey]; rfl
end Go.Proofs.YtahggnlmabdbbaaDoor.Di
