import Derived.Test.YtgaliinjjonlmaaDtPr5
import Derived.Deep.RegionLaw
import Derived.Deep.RegionLawGrows
namespace Go.Proofs.Ytgaliinjjonlmaa.Dt
open Go.RowKit
open Go.Proofs.Ytgaliinjjonlmaa.Tp
set_option linter.unusedVariables false

/-- 'append(row, 0)' inside a region that draws its order: the row keeps its bytes. -/
theorem step_keep {ops : Array Oper} {o : Oper} {a : Act} {w : World} {K : Act → World → Prop} {Q : Exit → Act → World → Prop} {E : Prop} (hgd : o.guard = none) (s x : Operand)
    (ho : o.op = .call { callee := .builtin .append, args := #[s, x], argTypes := #[23, 23] }) (B0 : Nat) (D : Option Addr) (n cd : Nat) (d : List Nat) (hs : a.eval s = .slice D n cd) (G : Nat) (hx : a.eval x = .slice (some ⟨G, 0, none⟩) 1 1)
    (hrow : w.ownsRow B0 5 1 (.slice D n cd) n (u8s d)) (hd : d.length = n) (hdb : ∀ b ∈ d, b ≤ 255) (hG : w.heap[G]? = some (.cells #[.int .u8 0] 5 (0, 0))) (hn : n ≤ 1000)
    (h : ∀ B c w', By w' (.slice B (n + 1) c) (d ++ [0]) → By w' (.slice D n cd) d → w.grownBy w' (Value.slice D n cd).ownBlock → K (a.put o.dst (.slice B (n + 1) c)) w') :
    if Region.wanted o (yielded ops a.tmps) = true then Oper.wp Try.prog o a w K Q else E := by
  obtain ⟨i0, hi, hz0, hz1, hz2⟩ := info_parts5 info5
  have hdb2 : ∀ b ∈ d ++ [0], b ≤ 255 := fun b hb => by
    rcases List.mem_append.1 hb with hb | hb
    · exact hdb b hb
    · simp at hb
      omega
  have hby := (by_own hrow hd hdb).1
  have grows : ∀ (hf : cd < n + 1) (hnone : D = none → n = 0 ∧ cd = 0) (holds : ∀ b, D = some b → ∀ j u, (u8s d)[j]? = some u → w.cell? (b.add j) = some u),
      if Region.wanted o (yielded ops a.tmps) = true then Oper.wp Try.prog o a w K Q else E := fun hf hnone holds => by
    refine step_append_grows hgd s x 23 ho 5 i0 (.int .u8 0) 1 1 Try.underlying23 hi hz0 hz1 hz2 rfl (by decide) D n cd (u8s d) hs hnone (by rw [u8s_len, hd, Nat.mul_one]) holds ⟨G, 0, none⟩ 1 1 [.int .u8 0] hx rfl (World.news_of_block (cs := #[.int .u8 0]) hG) (by simp [Value.oneCell']) hf (by unfold maxLen; omega) (by omega) ?_
    intro v' w' hown hgr
    have e : u8s d ++ [.int .u8 0] = u8s (d ++ [0]) := u8s_snoc d 0
    rw [e] at hown
    obtain ⟨h1, _⟩ := by_own hown (by simp [hd]) hdb2
    obtain ⟨B, c, e⟩ := h1.form
    subst e
    have hl : (d ++ [0]).length = n + 1 := by simp [hd]
    rw [hl] at h1 ⊢
    exact h B c w' h1 (hby.grown hgr (fun _ _ _ _ _ e => by cases e)) (gb_row hgr)
  rcases hrow.2 with ⟨e, hn0⟩ | ⟨g, cap, cur, e, hg, hh, hnc, hcm, hsz, htk⟩
  · cases e
    exact grows (by omega) (fun _ => ⟨rfl, rfl⟩) (fun b e => by cases e)
  · cases e
    by_cases hroom : n + 1 ≤ cd
    · have hcell : (w.cell? ⟨g, 0 + n * 1 + 0, none⟩).isSome = true := by
        rw [cell_of_row _ _ _ _ _ _ hh]
        have : n < cur.size := by omega
        simp [this]
      refine step_append_room hgd s x 23 ho 5 i0 1 Try.underlying23 hi hz1 g 0 n cd hs ⟨G, 0, none⟩ 1 1 [.int .u8 0] hx rfl (World.news_of_block (cs := #[.int .u8 0]) hG) (by simp [Value.oneCell']) hroom (fun j hj => ?_) ?_
      · have : j = 0 := by simpa using hj
        subst this
        exact ⟨hcell, frozen_of_row _ _ _ _ _ hh⟩
      · show K _ (w.setCell ⟨g, 0 + n * 1, none⟩ (.int .u8 0))
        rw [Nat.zero_add, Nat.mul_one] at hcell ⊢
        rw [Nat.add_zero] at hcell
        have hnew : By (w.setCell ⟨g, n, none⟩ (.int .u8 0)) (.slice (some ⟨g, 0, none⟩) (n + 1) cd) (d ++ [0]) := by
          refine ⟨hdb2, .inr ⟨g, 0, cd, by simp [hd], by simp [hd]; omega, hcm, by simpa [World.setCell] using row_lt hh, fun j hj => ?_⟩⟩
          simp [hd] at hj
          rw [Nat.zero_add]
          by_cases hjn : j = n
          · subst hjn
            obtain ⟨u, hu⟩ := Option.isSome_iff_exists.1 hcell
            rw [World.cell?_setCell_same _ _ _ hu]
            simp [List.getD_eq_getElem?_getD, ← hd]
          · have hjl : j < d.length := by omega
            rw [World.cell?_setCell_other _ _ _ _ (by simp <;> omega), hrow.cellAt j (by omega)]
            simp [u8s, List.getD_eq_getElem?_getD, List.getElem?_append, hjl]
        have hold : By (w.setCell ⟨g, n, none⟩ (.int .u8 0)) (.slice (some ⟨g, 0, none⟩) n cd) d := by
          refine ⟨hdb, .inr ⟨g, 0, cd, by rw [hd], by omega, hcm, by simpa [World.setCell] using row_lt hh, fun j hj => ?_⟩⟩
          rw [Nat.zero_add, World.cell?_setCell_other _ _ _ _ (by simp <;> omega), hrow.cellAt j (by omega)]
          simp [u8s, List.getD_eq_getElem?_getD, hj]
        exact h _ _ _ hnew hold (gb_set w g n _)
    · exact grows (by omega) (fun e => by cases e) (fun b e j u hj => by cases e; exact hrow.cells rfl j u hj)


end Go.Proofs.Ytgaliinjjonlmaa.Dt
