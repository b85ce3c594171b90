import Derived.Test.YtablgpcgfogfoaaRgN
namespace Go.Proofs.Ytablgpcgfogfoaa.Rg
open Go.RowKit
open Go.Proofs.Ytablgpcgfogfoaa.Tp
set_option linter.unusedVariables false

theorem has_idx (p : Nat → Bool) (n i : Nat) (hi : i < n) : anyB (fun j => (idx p n).getD j 0 == i) (cnt p n) = p i := by
  cases hp : p i with
  | true =>
    have hm := (idx_mem p i n).2 ⟨hi, hp⟩
    obtain ⟨j, hj, he⟩ := List.getElem_of_mem hm
    refine (any_iff _ _).2 ⟨j, by rw [← idx_len]; exact hj, ?_⟩
    rw [List.getD_eq_getElem?_getD, List.getElem?_eq_getElem hj]
    simpa using he
  | false =>
    refine any_no fun j hj => ?_
    rw [← idx_len] at hj
    rw [beq_eq_false_iff_ne]
    intro e
    have hm : i ∈ idx p n := by
      rw [← e, List.getD_eq_getElem?_getD, List.getElem?_eq_getElem hj]
      exact List.getElem_mem hj
    rw [((idx_mem p i n).1 hm).2] at hp
    cases hp

/-- What the product's Issue gives, as cells. -/
def JOut (nm : ByteArray) (r : Rg) (x : Cr) (w : World) (cs : Array Value) (num er : Int) (w' : World) : Prop :=
  ((crowd (add r x) = true ∧ er = 31 ∧ num = 0 ∧ cs = zG) ∨ (crowd (add r x) = false ∧ er = 0 ∧ num = (r.c.length : Int) ∧ ∃ v', cs = gv (add r x) v' ∧ RL w' w.heap.size nm (add r x) v')) ∧ Below w.heap.size w w'
def JForm (nm : ByteArray) (r : Rg) (x : Cr) (w : World) (e : Ending) (w' : World) : Prop :=
  ∃ A1 n1 k1 A2 n2 k2 num er, e = .returned (.tuple #[.agg #[.slice A1 n1 k1, .slice A2 n2 k2], .int .i64 num, .int .i64 er]) ∧ JOut nm r x w #[.slice A1 n1 k1, .slice A2 n2 k2] num er w'
theorem jform {nm : ByteArray} {r : Rg} {x : Cr} {w : World} {e : Ending} {w' : World} (h : IsPost nm r x w e w') : JForm nm r x w e w' := by
  rcases h with ⟨h1, rfl, h3⟩ | ⟨h1, v', rfl, h2, h3⟩
  · exact ⟨_, _, _, _, _, _, _, _, rfl, .inl ⟨h1, rfl, rfl, rfl⟩, h3⟩
  · exact ⟨_, _, _, _, _, _, _, _, rfl, .inr ⟨h1, rfl, rfl, v', rfl, h2⟩, h3⟩

end Go.Proofs.Ytablgpcgfogfoaa.Rg
