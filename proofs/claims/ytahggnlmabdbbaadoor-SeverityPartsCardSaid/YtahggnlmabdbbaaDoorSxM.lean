import Derived.Test.YtahggnlmabdbbaaDoorSxD
import Derived.Maps.RangeWalk
import Derived.Maps.OwnSet
namespace Go.Proofs.YtahggnlmabdbbaaDoor.Sx
open Go.RowKit Go.Shelf Go.Maps
set_option linter.unusedVariables false
section
variable {P : Program} {H : Type} {w : World} {n : Nat} {fr : Fr n} {al : List (Nat × Value)} {dst : Option Nat} {ty : TypeId} {pos : String} {af : Array Edge} {g : Option (Nat × Bool)} {x y : Operand}
theorem Rel.ofN {a b : World} (h : a.grownBy b none) : Rel NoC a b := ⟨h.os, h.tape, h.output, h.size, fun x hx _ => h.block x hx (by simp)⟩
/-- A range over a map begins. -/
theorem y_rg {t k e : TypeId} {R : Value → Option (DataW H × List MemPlace)} {b m : Nat} {D : DataW H} (K : Keyed P k) (ht : P.underlying t = some (.map k e)) (hx : eo n al x = some (.map (some b))) (hown : w.ownsMap P k R b m D) :
    Yl P (Fa fr al) ⟨dst, .range t x, ty, pos, af, g⟩ w (fun u w' => ∃ r, u = .pointer (some ⟨r, 0, none⟩) ∧ New w w' r ∧ w'.ranges P k R b r m D (Maps.has D) (Maps.size D)) := by
  obtain ⟨w', hrun, r1, r2, r3⟩ := hown.range K ht
  refine .inl ⟨_, w', ?_, _, rfl, ⟨Rel.ofN r2, Nat.le_refl _, by omega⟩, r1⟩
  simp only [execOp, eo_eval hx]
  simp [hrun]
/-- The next one. -/
theorem y_nx {k : TypeId} {R : Value → Option (DataW H × List MemPlace)} {b r m cnt : Nat} {D : DataW H} {left : Lit → Bool} (K : Keyed P k) (hx : eo n al x = some (.pointer (some ⟨r, 0, none⟩))) (h : w.ranges P k R b r m D left cnt) :
    Yl P (Fa fr al) ⟨dst, .next x false, ty, pos, af, g⟩ w (fun u w' => (u = .tuple #[.bool false] ∧ w = w' ∧ ∀ kl, left kl = false) ∨
      ∃ key v kl y cnt', u = .tuple #[.bool true, key, v] ∧ keyOf P k key = some kl ∧ left kl = true ∧ R v = some y ∧ (∀ zd, D.atKey kl zd = y.1) ∧ w'.ranges P k R b r m D (fun x => left x && !x.sameKey kl) cnt' ∧ cnt' < cnt ∧ Rel (fun k => k = r) w w' ∧ w'.heap.size = w.heap.size ∧ (Instr.entry (.pointer (some ⟨r, 0, none⟩))).run P w' = .ok (.tuple #[key, v]) w') := by
  rcases h.next K ty with ⟨_, hl, hrun⟩ | ⟨key, v, kl, z, w', cnt', h1, h2, h3, h4, hrun, h5, h6, h7, h8, h9⟩
  · refine .inl ⟨_, w, ?_, .inl ⟨rfl, rfl, hl⟩⟩
    simp only [execOp, eo_eval hx]
    simp [hrun]
  · refine .inl ⟨_, w', ?_, .inr ⟨key, v, kl, z, cnt', rfl, h1, h2, h3, h4, h5, h6, Rel.ofT h7, h8, h9⟩⟩
    simp only [execOp, eo_eval hx]
    simp [hrun]
theorem r_en {v : Value} {p : Value} (hx : eo n al x = some p) (h : (Instr.entry p).run P w = .ok v w) : (execOp (Fa fr al).eval ⟨dst, .entry x, ty, pos, af, g⟩).run P w = .ok (.value v) w := by
  simp only [execOp, eo_eval hx]
  simp [h]
theorem r_lk {t : TypeId} {ok : Bool} {v m k : Value} (hx : eo n al x = some m) (hy : eo n al y = some k) (h : (Instr.lookup t m k ok).run P w = .ok v w) : (execOp (Fa fr al).eval ⟨dst, .lookup t x y ok, ty, pos, af, g⟩).run P w = .ok (.value v) w := by
  simp only [execOp, eo_eval hx, eo_eval hy]
  simp [h]
/-- A map's block stays, and a range over it, where other blocks turn. -/
theorem map_rel {c : Nat → Prop} {w' : World} {k : TypeId} {R : Value → Option (DataW H × List MemPlace)} {b m : Nat} {D : DataW H} (h : w.ownsMap P k R b m D) (r : Rel c w w') (hc : ¬ c b) : w'.ownsMap P k R b m D := by
  have hlt := h.lt
  obtain ⟨es, clock, hb, F, hs, hD⟩ := h
  exact ⟨es, clock, (r.block b hlt hc).trans hb, F, hs, hD⟩
theorem rng_rel {c : Nat → Prop} {w' : World} {k : TypeId} {R : Value → Option (DataW H × List MemPlace)} {b r m cnt : Nat} {D : DataW H} {left : Lit → Bool} (h : w.ranges P k R b r m D left cnt) (q : Rel c w w') (hb : ¬ c b) (hr : ¬ c r) : w'.ranges P k R b r m D left cnt := by
  have h1 := h.owns.lt
  have h2 := h.lt
  obtain ⟨es, clock, since, seen, c0, a1, F, hs, hD, a2, rest⟩ := h
  exact ⟨es, clock, since, seen, c0, (q.block b h1 hb).trans a1, F, hs, hD, (q.block r h2 hr).trans a2, rest⟩
end
end Go.Proofs.YtahggnlmabdbbaaDoor.Sx
