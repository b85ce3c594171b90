import Derived.Test.YtgknfkmojhganaaGreatDiV
namespace Go.Proofs.YtgknfkmojhganaaGreat.Di
open Go.RowKit
open Go.Proofs.YtgknfkmojhganaaGreat.Tp
set_option linter.unusedVariables false

theorem iv_set (l : List Nat) (k x : Nat) : iv (l.set k x) = (iv l).set k (.int .i64 (x : Int)) := by simp [iv]


/-- The first i and the last i have changed places. -/
structure Rv (l cs : List Nat) (i : Nat) : Prop where
  len : cs.length = l.length
  at_ : ∀ k, k < l.length → cs.getD k 0 = if k < i ∨ l.length < k + 1 + i then l.getD (l.length - 1 - k) 0 else l.getD k 0
theorem Rv.start (l : List Nat) : Rv l l 0 := ⟨rfl, fun k hk => by rw [if_neg (by omega)]⟩
theorem Rv.next {l cs : List Nat} {i j : Nat} (h : Rv l cs i) (hj : i + j + 1 = l.length) (hij : i < j) : Rv l ((cs.set i (cs.getD j 0)).set j (cs.getD i 0)) (i + 1) := by
  have hl := h.len
  refine ⟨by simp [hl], fun k hk => ?_⟩
  have e1 : cs.getD j 0 = l.getD j 0 := by rw [h.at_ j (by omega), if_neg (by omega)]
  have e2 : cs.getD i 0 = l.getD i 0 := by rw [h.at_ i (by omega), if_neg (by omega)]
  rw [getD_set (by simp; omega), getD_set (by omega), e1, e2]
  by_cases h1 : k = j
  · rw [if_pos h1, if_pos (by omega), show l.length - 1 - k = i by omega]
  · rw [if_neg h1]
    by_cases h2 : k = i
    · rw [if_pos h2, if_pos (by omega), show l.length - 1 - k = j by omega]
    · rw [if_neg h2, h.at_ k hk]
      by_cases h3 : k < i ∨ l.length < k + 1 + i
      · rw [if_pos h3, if_pos (by omega)]
      · rw [if_neg h3, if_neg (by omega)]
theorem Rv.done {l cs : List Nat} {i j : Nat} (h : Rv l cs i) (hj : i + j + 1 = l.length) (hij : j ≤ i) : cs = l.reverse := by
  refine List.ext_getElem (by rw [h.len, List.length_reverse]) fun k h1 h2 => ?_
  have hk : k < l.length := by rw [← h.len]; exact h1
  have e := h.at_ k hk
  rw [List.getD_eq_getElem?_getD, List.getElem?_eq_getElem h1] at e
  rw [List.getElem_reverse]
  have e2 : l.getD (l.length - 1 - k) 0 = l[l.length - 1 - k]'(by omega) := by rw [List.getD_eq_getElem?_getD, List.getElem?_eq_getElem (by omega)]; rfl
  have e3 : l.getD k 0 = l[k] := by rw [List.getD_eq_getElem?_getD, List.getElem?_eq_getElem hk]; rfl
  by_cases h3 : k < i ∨ l.length < k + 1 + i
  · rw [if_pos h3, e2] at e
    exact e
  · rw [if_neg h3, e3] at e
    have : l.length - 1 - k = k := by omega
    simp only [this]
    exact e

set_option maxRecDepth 100000 in
set_option maxHeartbeats 1000000 in
theorem reverse_any (B : Nat) (l : List Nat) (g n c : Nat) (w : World) (hown : w.ownsRow B 3 1 (.slice (some ⟨g, 0, none⟩) n c) n (iv l)) (hn : n ≤ 1000) (h1 : 1 ≤ n) :
    Calls Tryz.prog 97 #[.slice (some ⟨g, 0, none⟩) n c] w fun e w' => e = .returned (.tuple #[]) ∧ w'.ownsRow B 3 1 (.slice (some ⟨g, 0, none⟩) n c) n (iv l.reverse) ∧ w.grownBy w' (some g) := by
  have hln : l.length = n := by have := hown.1; rw [iv_len] at this; omega
  have HLN := Lib.hid hln
  have HOWN := Lib.hid hown
  have hw : IntKind.i64.wrap ((n : Int) - 1) = (n : Int) - 1 := IntWalk.i64_in _ (by omega)
  have HG0 := Lib.hid (World.grownBy.refl w (some g))
  obtain ⟨m, rfl⟩ : ∃ m, n = m + 1 := ⟨n - 1, by omega⟩
  have hm : ((m + 1 : Nat) : Int) - 1 = (m : Int) := by omega
  rw [hm] at hw
  have HM := Lib.hid hm
  clear hown hln hm
  go_enter Tryz.func97, Tryz.ntmps97
  go_wp2_with fail
  clear hw
  go_loopw [2, 3] (fun iv_ jv wr => ∃ (i j : Nat) (cs : List Nat), iv_ = .int .i64 (i : Int) ∧ jv = .int .i64 (j : Int) ∧ i + j = m ∧ Rv l cs i ∧ wr.ownsRow B 3 1 (.slice (some ⟨g, 0, none⟩) (m + 1) c) (m + 1) (iv cs) ∧ w.grownBy wr (some g)) (fun iv_ _ _ => m + 1 - (intOf iv_).toNat)
  case atStart => exact ⟨0, m, l, rfl, rfl, by omega, Rv.start l, HOWN.out, HG0.out⟩
  case round =>
    obtain ⟨i, j, cs, rfl, rfl, hij, hrv, hown, hgr⟩ := hrel
    have HRV := Lib.hid hrv
    have HOK := Lib.hid hown
    have HGK := Lib.hid hgr
    by_cases hlt : i < j
    · have hcl := hrv.len
      rw [HLN.out] at hcl
      obtain ⟨x, hx⟩ : ∃ x, cs.getD i 0 = x := ⟨_, rfl⟩
      obtain ⟨y, hy⟩ : ∃ y, cs.getD j 0 = y := ⟨_, rfl⟩
      obtain ⟨a1, a2, o3, g3⟩ := own_put (u := .int .i64 (y : Int)) hown (show i < m + 1 by omega)
      obtain ⟨b1, b2, -, -⟩ := own_put (u := .int .i64 (x : Int)) hown (show j < m + 1 by omega)
      rw [iv_at _ _ (by omega), hx] at a1
      rw [iv_at _ _ (by omega), hy] at b1
      obtain ⟨-, -, o4, g4⟩ := own_put (u := .int .i64 (x : Int)) o3 (show j < m + 1 by omega)
      rw [← iv_set, ← iv_set] at o4
      have hn := hrv.next (j := j) (by rw [HLN.out]; omega) hlt
      rw [hx, hy] at hn
      have HN := Lib.hid hn
      have HO4 := Lib.hid (own_below o4 (Below.refl _ _).drew)
      have HG4 := Lib.hid (gb_trans (gb_trans HGK.out (gb_trans g3 g4)) (gb_drewN _ 1 _))
      have i0 : (0 : Int) ≤ (i : Int) := by omega
      have i1 : (i : Int) < ((m + 1 : Nat) : Int) := by omega
      have i2 : (i : Int) < (m : Int) + 1 := by omega
      have j0 : (0 : Int) ≤ (j : Int) := by omega
      have j1 : (j : Int) < ((m + 1 : Nat) : Int) := by omega
      have j2 : (j : Int) < (m : Int) + 1 := by omega
      have hne : ¬ i = j := by omega
      have hne' : ¬ j = i := by omega
      clear hcl hx hy o3 g3 o4 g4 hn hrv hown hgr HG0 HOWN
      go_wp2_with fail
      go_region
      all_goals
        go_wp2_with fail
        exact ⟨⟨i + 1, j - 1, _, by go_num, by (congr 1; omega), by omega, HN.out, HO4.out, HG4.out⟩, by simp [intOf]; omega⟩
    · go_wp2_with fail
      go_end0
      obtain rfl := HRV.out.done (j := j) (by rw [HLN.out]; omega) (by omega)
      exact ⟨rfl, HOK.out, HGK.out⟩

end Go.Proofs.YtgknfkmojhganaaGreat.Di
