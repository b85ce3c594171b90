import Derived.Test.YtgaliinjjonlmaaDtRaw
import Derived.ProofKit
import Derived.OpenShut
import Derived.Deep.Slices
import Derived.Deep.SlicePairs
namespace Go.Proofs.Ytgaliinjjonlmaa.Dt
open Go.ChangeShapes Go.WideShapes Go.ChangeAt Go.RowKit Go.Deep
open Go.Proofs.Ytgaliinjjonlmaa.Tp
set_option linter.unusedVariables false

theorem cells54 : Try.prog.cellsOf 54 = 3 := by kernel_rfl
theorem cells3 : Try.prog.cellsOf 3 = 1 := by kernel_rfl
theorem cells23 : Try.prog.cellsOf 23 = 1 := by kernel_rfl

theorem rb_arg {w : World} {a : Option Addr} {len cap : Nat} {zs : List Int} (h : IsRow .u8 w a len cap zs) : ∃ bs : List Nat, bs.length = len ∧ Rb w (.slice a len cap) bs := by
  by_cases h0 : 0 < len
  · obtain ⟨hm, hc⟩ := h.at_
    obtain ⟨b, off, e, hlt, _⟩ := hc h0
    obtain ⟨bs, h1, h2⟩ := by_arg h (fun x ex => by rw [e] at ex; cases ex; exact ⟨hlt, rfl⟩)
    exact ⟨bs, h1, h2.rb⟩
  · obtain rfl : len = 0 := by omega
    rcases h with ⟨rfl, _, rfl, rfl⟩ | ⟨x, rfl, hl, hm, hz, hc, hw⟩
    · exact ⟨[], rfl, by simp, .inl ⟨rfl, rfl⟩⟩
    · exact ⟨[], rfl, by simp, .inr ⟨x, cap, rfl, hl, hm, fun h => by simp at h⟩⟩

set_option maxRecDepth 100000 in
theorem rlies_arg {H : Type} {enc : TypeId × Value → H} {W : World} {a : Option Addr} {len cap fuel : Nat} {x : DataW H × List MemPlace}
    (h : DataW.trod enc Try.prog W 0 (fun _ => true) true fuel 24 [.slice a len cap] = some x) (hlt : ∀ y, a = some y → y.block < W.heap.size ∧ y.spot = none) : len ≤ maxLen ∧ ∃ rs vs, RLies W a len rs vs := by
  rcases open_slice Try.underlying24 h with ⟨hcs, _⟩ | ⟨y, l, c, m, n, D, Pl, hcs, _, hl, hm, hmm, rfl, hx⟩
  · simp at hcs
    obtain ⟨rfl, rfl, rfl⟩ := hcs
    exact ⟨by unfold maxLen; omega, [], [], rfl, rfl, fun h => absurd h (by omega), fun j hj => absurd hj (by omega)⟩
  · simp at hcs
    obtain ⟨rfl, rfl, rfl⟩ := hcs
    obtain ⟨hb, hs⟩ := hlt y rfl
    obtain ⟨b, off, sp⟩ := y
    simp only at hb hs
    subst hs
    simp at hmm
    subst hmm
    refine ⟨by omega, ?_⟩
    have each : ∀ i, i < len → ∃ q : R × Value, W.cell? ⟨b, off + i * 3, none⟩ = some (.int .i64 q.1.f) ∧ W.cell? ⟨b, off + i * 3 + 1, none⟩ = some (.int .i64 q.1.s) ∧ W.cell? ⟨b, off + i * 3 + 2, none⟩ = some q.2 ∧ Rb W q.2 q.1.d := by
      intro i hi
      obtain ⟨cs', h1, h2⟩ := hx i (by omega)
      rw [cells54] at h1
      obtain ⟨_, hlen, hcell⟩ := World.cells?_some h1
      match cs', hlen with
      | [v0, v1, v2], _ =>
        obtain ⟨y0, y1, y2, k, _, _, t0, t1, t2⟩ := trod_struct3 Try.underlying54 h2
        simp only [cells3, cells23, List.drop, List.take] at t0 t1 t2
        obtain ⟨F, hc0, _, _⟩ := DataW.trod_int Try.underlying3 t0
        obtain ⟨S, hc1, _, _⟩ := DataW.trod_int Try.underlying3 t1
        simp only [List.cons.injEq, and_true] at hc0 hc1
        subst hc0
        subst hc1
        have e0 := hcell 0 (by omega)
        have e1 := hcell 1 (by omega)
        have e2 := hcell 2 (by omega)
        have ea : ∀ j, (Addr.add ⟨b, off, none⟩ (i * 3)).add j = ⟨b, off + i * 3 + j, none⟩ := fun j => by rw [add_plain, add_plain]
        rw [ea] at e0 e1 e2
        have hd : ∃ A k c', v2 = .slice A k c' ∧ ∃ zs, IsRow .u8 W A k c' zs := by
          rcases open_ints Try.underlying23 Try.underlying5 (by kernel_rfl) t2 with ⟨hcs, _⟩ | ⟨x, l, c, zs, hcs, _, hl, hm, hz, _, hcell, hwz⟩
          · simp at hcs
            exact ⟨none, 0, 0, hcs, [], .inl ⟨rfl, rfl, rfl, rfl⟩⟩
          · simp at hcs
            exact ⟨_, _, _, hcs, zs, .inr ⟨_, rfl, hl, hm, by simpa using hz, hcell, hwz⟩⟩
        obtain ⟨A, k', c', rfl, zs, hrow⟩ := hd
        obtain ⟨bs, hbl, hrb⟩ := rb_arg hrow
        exact ⟨(⟨F, S, bs⟩, _), by simpa using e0, by simpa using e1, by simpa using e2, hrb⟩
    haveI : Inhabited (R × Value) := ⟨(r0, .slice none 0 0)⟩
    obtain ⟨q, hq⟩ := choose_lt each
    refine ⟨(List.range len).map (fun i => (q i).1), (List.range len).map (fun i => (q i).2), by simp, by simp, fun h0 => ⟨b, off, rfl, hb, fun j hj => ?_⟩, fun j hj => ?_⟩
    · have h1 := hq j hj
      have g1 : ((List.range len).map (fun i => (q i).1)).getD j r0 = (q j).1 := by simp [List.getD_eq_getElem?_getD, hj]
      have g2 : ((List.range len).map (fun i => (q i).2)).getD j undef = (q j).2 := by simp [List.getD_eq_getElem?_getD, hj]
      rw [g1, g2]
      exact ⟨h1.1, h1.2.1, h1.2.2.1⟩
    · have h1 := hq j hj
      have g1 : ((List.range len).map (fun i => (q i).1)).getD j r0 = (q j).1 := by simp [List.getD_eq_getElem?_getD, hj]
      have g2 : ((List.range len).map (fun i => (q i).2)).getD j undef = (q j).2 := by simp [List.getD_eq_getElem?_getD, hj]
      rw [g1, g2]
      exact h1.2.2.2


end Go.Proofs.Ytgaliinjjonlmaa.Dt
