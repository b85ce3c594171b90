import Derived.Test.YtgaliinjjonlmaaDtFrame
import Derived.WalkKit
import Derived.ProofKit
namespace Go.Proofs.Ytgaliinjjonlmaa.Dt
open Go.RowKit
open Go.Proofs.Ytgaliinjjonlmaa.Tp
set_option linter.unusedVariables false

set_option maxRecDepth 100000 in
theorem arg_lt {W : World} {base len cap : Nat} {a : Option Addr} {t e : TypeId} (ht : Try.prog.underlying t = some (.slice e)) (h : Value.okWide Try.prog W .any base t (.slice a len cap)) : ∀ x, a = some x → x.block < W.heap.size ∧ x.spot = none := by
  rintro x rfl
  unfold Value.okWide at h
  rw [ht] at h
  simp only [Cell.okWide, ht, Cell.ok, World.has] at h
  obtain ⟨_, _, _, hs, row, cells, h1, _⟩ := h
  refine ⟨?_, hs⟩
  unfold World.shape? at h1
  split at h1
  · exact row_lt (by assumption)
  · cases h1

/-- An argument's bytes. -/
theorem by_arg {w : World} {a : Option Addr} {len cap : Nat} {zs : List Int} (h : IsRow .u8 w a len cap zs) (hx : ∀ x, a = some x → x.block < w.heap.size ∧ x.spot = none) :
    ∃ bs : List Nat, bs.length = len ∧ By w (.slice a len cap) bs := by
  rcases h with ⟨rfl, rfl, rfl, rfl⟩ | ⟨x, rfl, hl, hm, hz, hc, hw⟩
  · exact ⟨[], rfl, by simp, .inl ⟨rfl, rfl⟩⟩
  · obtain ⟨h1, h2⟩ := hx x rfl
    obtain ⟨b, off, spot⟩ := x
    simp only at h1 h2
    subst h2
    have hr : ∀ z ∈ zs, 0 ≤ z ∧ z ≤ 255 := fun z hz => by
      have h := hw z hz
      simp only [Lit.wf, Bool.and_eq_true, decide_eq_true_eq] at h
      have e1 : IntKind.u8.min = 0 := by decide
      have e2 : IntKind.u8.max = 255 := by decide
      omega
    have hlen : ((zs.take len).map Int.toNat).length = len := by simp; omega
    refine ⟨(zs.take len).map Int.toNat, hlen, fun b hb => ?_, .inr ⟨b, off, cap, by rw [hlen], by rw [hlen]; exact hl, hm, h1, fun j hj => ?_⟩⟩
    · obtain ⟨z, hz, rfl⟩ := List.mem_map.1 hb
      have := hr z (List.mem_of_mem_take hz)
      omega
    · rw [hlen] at hj
      have hj2 : j < zs.length := by omega
      have := hc j hj2
      have e : (⟨b, off, none⟩ : Addr).add j = ⟨b, off + j, none⟩ := by unfold Addr.add; split <;> simp_all
      rw [e] at this
      rw [this]
      have e4 : zs.getD j 0 = zs[j] := by simp [List.getD_eq_getElem?_getD, hj2]
      have e2 : ((zs.take len).map Int.toNat).getD j 0 = zs[j].toNat := by
        simp [List.getD_eq_getElem?_getD, hj, hj2]
      have e3 := hr zs[j] (List.getElem_mem hj2)
      rw [e2, e4, Int.toNat_of_nonneg e3.1]

theorem by_set {w : World} {b off n c q x : Nat} {bs : List Nat} (h : By w (.slice (some ⟨b, off, none⟩) n c) bs) (hq : q < bs.length) (hx : x ≤ 255) : By (w.setCell ⟨b, off + q, none⟩ (.int .u8 (x : Int))) (.slice (some ⟨b, off, none⟩) n c) (bs.set q x) := by
  refine ⟨fun y hy => ?_, .inr ?_⟩
  · rcases List.mem_or_eq_of_mem_set hy with h1 | rfl
    · exact h.1 y h1
    · exact hx
  · rcases h.2 with ⟨e, _⟩ | ⟨b', off', c', e, h1, h2, h3, h4⟩
    · cases e
    · cases e
      refine ⟨b, off, c, by simp, by simpa using h1, h2, by simpa [World.setCell] using h3, fun j hj => ?_⟩
      simp at hj
      by_cases hjq : j = q
      · subst hjq
        rw [World.cell?_setCell_same _ _ _ (h4 j hj)]
        simp [List.getD_eq_getElem?_getD, hj]
      · rw [World.cell?_setCell_other _ _ _ _ (by simp <;> omega), h4 j hj]
        simp [List.getD_eq_getElem?_getD, Ne.symm hjq]


end Go.Proofs.Ytgaliinjjonlmaa.Dt
