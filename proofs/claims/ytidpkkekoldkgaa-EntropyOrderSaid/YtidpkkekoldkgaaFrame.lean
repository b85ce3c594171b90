import Derived.Test.YtidpkkekoldkgaaBytesWalk
import Derived.Test.YtidpkkekoldkgaaEntTab
import Derived.Laws.AppendOwnNone
import Derived.ProofKit
import Derived.OpenShut
import Derived.ShutString
import Derived.ChangeOld
namespace Go.Proofs.Ytidpkkekoldkgaa.Tp
open Go.RowKit
open Go.Proofs.Ytidpkkekoldkgaa.Ent (Bytes)

theorem own : ownKnob Try.prog.godebug = none := by kernel_rfl
theorem laidOut : laidOutB Try.prog = true := by kernel_rfl

/-- A slice of integers that came in: nil, or a row of 'cap' cells. -/
def IsRow (k : IntKind) (w : World) (a : Option Addr) (len cap : Nat) (zs : List Int) : Prop :=
  (a = none ∧ len = 0 ∧ cap = 0 ∧ zs = []) ∨
  ∃ x, a = some x ∧ len ≤ cap ∧ cap ≤ maxLen ∧ zs.length = cap ∧ (∀ i, i < zs.length → w.cell? (x.add i) = some (.int k (zs.getD i 0))) ∧ ∀ n ∈ zs, (Lit.int k n).wf = true

theorem IsRow.at_ {k : IntKind} {w : World} {a : Option Addr} {len cap : Nat} {zs : List Int} (h : IsRow k w a len cap zs) :
    len ≤ maxLen ∧ len ≤ zs.length ∧ (∀ n ∈ zs, (Lit.int k n).wf = true) ∧ (0 < len → ∃ b off, a = some ⟨b, off, none⟩ ∧ b < w.heap.size ∧ ∀ j, j < len → w.cell? ⟨b, off + j, none⟩ = some (.int k (zs.getD j 0))) := by
  rcases h with ⟨rfl, rfl, rfl, rfl⟩ | ⟨x, rfl, hl, hm, hz, hc, hw⟩
  · exact ⟨by unfold maxLen; omega, by simp, by simp, fun h => absurd h (by omega)⟩
  · refine ⟨by omega, by omega, hw, fun h0 => ?_⟩
    obtain ⟨b, off, spot⟩ := x
    have hc0 := hc 0 (by omega)
    have hspot : spot = none := by simpa [Addr.add] using World.cell?_spot hc0
    subst hspot
    have hlt : b < w.heap.size := by simpa [Addr.add] using block_lt_of_cell hc0
    refine ⟨b, off, rfl, hlt, fun j hj => ?_⟩
    have hj := hc j (by omega)
    have e : (⟨b, off, none⟩ : Addr).add j = ⟨b, off + j, none⟩ := by unfold Addr.add; split <;> simp_all
    rwa [e] at hj

theorem tape_new {w : World} {a : Option Addr} {len cap : Nat} {zs : List Int} (h : IsRow .i64 w a len cap zs) : TapeOk (w.alloc (.cells #[.slice a len cap, .int .i64 0] 30)) w.heap.size := by
  obtain ⟨hm, _, _, hc⟩ := h.at_
  unfold maxLen at hm
  refine ⟨a, len, cap, fun j => zs.getD j 0, 0, heap_alloc_new _ _, hm, by omega, fun h0 => ?_⟩
  obtain ⟨b, off, e, hlt, hcell⟩ := hc h0
  exact ⟨b, off, e, hlt, fun j hj => (World.cell?_alloc_lt w _ _ hlt).trans (hcell j hj)⟩

theorem bytes_in {w : World} {a : Option Addr} {len cap : Nat} {zs : List Int} (h : IsRow .u8 w a len cap zs) : ∃ bs, Bytes w a len bs := by
  obtain ⟨hm, hl, hw, hc⟩ := h.at_
  unfold maxLen at hm
  have hb : ∀ j, j < zs.length → 0 ≤ zs.getD j 0 ∧ zs.getD j 0 ≤ 255 := by
    intro j hj
    rw [List.getD_eq_getElem?_getD, List.getElem?_eq_getElem hj]
    have := Go.bounds_u8 (hw _ (List.getElem_mem hj))
    simp
    omega
  refine ⟨(List.range len).map fun j => (zs.getD j 0).toNat, by simp, ?_, by omega, fun h0 => ?_⟩
  · intro b hbm
    simp at hbm
    obtain ⟨j, hj, rfl⟩ := hbm
    have := hb j (by omega)
    rw [List.getD_eq_getElem?_getD] at this
    omega
  · obtain ⟨b, off, e, hlt, hcell⟩ := hc h0
    refine ⟨b, off, e, hlt, fun j hj => (hcell j hj).trans ?_⟩
    have := hb j (by omega)
    have e2 : (((List.range len).map fun j => (zs.getD j 0).toNat).getD j 0 : Nat) = (zs.getD j 0).toNat := by
      simp [hj]
    rw [e2, Int.toNat_of_nonneg this.1]

theorem bytes_of_row {w : World} {base n c : Nat} {A : Option Addr} {bs : List Nat} (h : w.ownsRow base 5 1 (.slice A n c) n (u8s bs)) (hb : ∀ b ∈ bs, b ≤ 255) (hn : n ≤ 9223372036854775807) : Bytes w A n bs := by
  have hl : bs.length = n := by simpa [u8s] using h.1
  refine ⟨hl, hb, hn, fun h0 => ?_⟩
  have h' := h
  rcases h.2 with ⟨_, e⟩ | ⟨g, cap, cur, e, _, hh, _⟩
  · omega
  · injection e with e1 e2 e3
    subst e1 e3
    refine ⟨g, 0, rfl, (Array.getElem?_eq_some_iff.1 hh).1, fun j hj => ?_⟩
    rw [Nat.zero_add, h'.cellAt j (by omega)]
    simp [u8s, hl, hj]

theorem row_form {w : World} {base n : Nat} {v : Value} {xs : List Value} (h : w.ownsRow base 5 1 v n xs) : ∃ A c, v = .slice A n c ∧ (A = none → c = 0 ∧ n = 0) := by
  rcases h.2 with ⟨rfl, rfl⟩ | ⟨g, cap, cur, rfl, _⟩
  · exact ⟨none, 0, rfl, fun _ => ⟨rfl, rfl⟩⟩
  · exact ⟨_, _, rfl, fun h => by cases h⟩

theorem row_below {w w' : World} {base n : Nat} {v : Value} {xs : List Value} (h : w.ownsRow base 5 1 v n xs) (hb : Below w.heap.size w w') : w'.ownsRow base 5 1 v n xs :=
  h.kept (row := none) ⟨hb.os, hb.tape, hb.output, hb.size, fun k hk _ => hb.block k hk⟩ (by cases hv : v.ownBlock <;> simp)

/-- 'append(out, xs...)': out and xs rows of the call's own, each nil or not. -/
theorem append_src {ops : Array Oper} {rest : List Oper} {o : Oper} {a : Act} {w : World} {Q : Exit → Act → World → Prop} (hgd : o.guard = none) (s x : Operand)
    (ho : o.op = .call { callee := .builtin .append, args := #[s, x], argTypes := #[27, 27] })
    (base base2 : Nat) (v v2 : Value) (n m : Nat) (xs news : List Value) (hs : a.eval s = v) (hx : a.eval x = v2) (hown : w.ownsRow base 5 1 v n xs) (hsrc : w.ownsRow base2 5 1 v2 m news)
    (h1 : ∀ u ∈ news, u.oneCell' = true) (h63 : n + m ≤ 100000) (hbase : base ≤ w.heap.size)
    (h : ∀ v' w', w'.ownsRow base 5 1 v' (n + m) (xs ++ news) → w.grownBy w' v.ownBlock → wpList Try.prog ops Q rest (a.put o.dst v') w') : wpList Try.prog ops Q (o :: rest) a w := by
  obtain ⟨i0, hi, hz0, hz1, hz2⟩ := info_parts info5
  rcases hsrc.2 with ⟨rfl, rfl⟩ | ⟨g, cap, cur, rfl, hb, hh, _⟩
  · have hn : news = [] := List.eq_nil_of_length_eq_zero (by simpa using hsrc.1)
    subst hn
    refine wpList_append_own_none hgd s x 27 ho base 5 i0 1 Try.underlying27 hi v n xs hs hown hx (h v w ?_ (World.grownBy.refl _ _))
    simpa using hown
  · refine wpList_append_own _ hgd s x 27 ho base 5 i0 (.int .u8 0) 1 1 Try.underlying27 hi hz0 hz1 hz2 rfl (by decide) v n xs hs hown ⟨g, 0, none⟩ m cap news hx hsrc.1 (hsrc.cells rfl) h1 (by unfold maxLen; omega) (by omega) hbase ?_
    intro v' w' h2 h3 _
    exact h v' w' h2 h3

theorem u8s_one (bs : List Nat) : ∀ u ∈ u8s bs, u.oneCell' = true := by
  intro u hu
  simp [u8s] at hu
  obtain ⟨b, _, rfl⟩ := hu
  rfl

theorem u8s_app (a b : List Nat) : u8s a ++ u8s b = u8s (a ++ b) := by simp [u8s]

end Go.Proofs.Ytidpkkekoldkgaa.Tp
