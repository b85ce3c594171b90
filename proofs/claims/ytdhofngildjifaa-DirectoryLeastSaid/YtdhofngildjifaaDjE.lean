import Derived.Test.YtdhofngildjifaaDjD
namespace Go.Proofs.Ytdhofngildjifaa.Di
open Go.RowKit
open Go.Proofs.Ytdhofngildjifaa.Tp
set_option linter.unusedVariables false

/-- The example's directory. -/
def d0 : Dy := ⟨[1, 2, 2], [⟨0, 1, 0, 1⟩, ⟨1, 1, 1, 2⟩]⟩
theorem d0_ok : Ok d0 := by
  refine ⟨by decide, by decide, fun p hp => ?_, fun j hj => ?_, fun j hj => ?_⟩
  · have : p < 3 := hp
    rcases (by omega : p = 0 ∨ p = 1 ∨ p = 2) with rfl | rfl | rfl <;> decide
  · have : j < 2 := hj
    rcases (by omega : j = 0 ∨ j = 1) with rfl | rfl
    · exact ⟨.inl rfl, by decide, by decide, by decide, by decide, by decide⟩
    · exact ⟨.inl rfl, by decide, by decide, by decide, by decide, by decide⟩
  · have : j + 1 < 2 := hj
    obtain rfl : j = 0 := by omega
    decide
theorem d0_n : d0.k.length = 3 := rfl
theorem d0_in01 : InG d0 0 0 1 := ⟨by decide, by decide, by decide, by decide, .step .here (by decide) (by decide) (by decide)⟩
theorem d0_in02 : InG d0 1 0 2 := ⟨by decide, by decide, by decide, by decide, .step (u := 1) (.step .here (by decide) (by decide) (by decide)) (by decide) (by decide) (by decide)⟩
theorem d0_only (q : Nat) (h : Reach (dm d0 0) d0.k.length 0 q) : q = 0 ∨ q = 1 := by
  induction h with
  | here => exact .inl rfl
  | @step u q _ hu hq hm ih =>
    have hq3 : q < 3 := hq
    rcases ih with rfl | rfl
    · rcases (by omega : q = 0 ∨ q = 1 ∨ q = 2) with rfl | rfl | rfl
      · exact .inl rfl
      · exact .inr rfl
      · exact absurd hm (by decide)
    · rcases (by omega : q = 0 ∨ q = 1 ∨ q = 2) with rfl | rfl | rfl
      · exact .inl rfl
      · exact .inr rfl
      · exact absurd hm (by decide)
theorem d0_no02 : ¬ InG d0 0 0 2 := fun h => by
  rcases d0_only 2 h.2.2.2.2 with e | e <;> cases e
theorem d0_chain (c : List Nat) (h : Chain (dm d0 1) d0.k.length 0 2 c) : c = [0, 1, 2] := by
  obtain ⟨h1, h2, h3, h4, h5, h6, h7⟩ := h
  have h2' : c.length ≤ 3 := h2
  match c, h1, h2', h3, h4, h6, h7 with
  | [a, b], _, _, h3, h4, h6, h7 =>
    have e1 : a = 0 := h3
    have e2 : b = 2 := h4
    subst e1 e2
    exact absurd (h7 0 (by decide)) (by decide)
  | [a, b, x], _, _, h3, h4, h6, h7 =>
    have e1 : a = 0 := h3
    have e2 : x = 2 := h4
    subst e1 e2
    have hb : b < 3 := h6 1 (by simp)
    have hl : dm d0 1 0 b = true := h7 0 (by simp)
    rcases (by omega : b = 0 ∨ b = 1 ∨ b = 2) with rfl | rfl | rfl
    · exact absurd hl (by decide)
    · rfl
    · exact absurd hl (by decide)

def AwPost (w : World) (e : Ending) (w' : World) : Prop := ∃ A cc, e = .returned (.tuple #[.slice A 3 cc, .bool true]) ∧ Row w' 0 1 A 3 (iv [0, 1, 2]) ∧ Below w.heap.size w w'
def v0 (n : Nat) : Vd := ⟨some ⟨n, 0, none⟩, 3, some ⟨n + 1, 0, none⟩, 2⟩

set_option maxRecDepth 100000 in
set_option maxHeartbeats 1000000 in
theorem awake_any (w : World) : Calls Try.prog 10 #[] w fun e w' => e = .returned (.bool true) ∧ Below w.heap.size w w' := by
  obtain ⟨-, z0, z1, z2, hb0⟩ := boxes3 w (.cells #[.int .i64 1, .int .i64 2, .int .i64 2] 3) (.cells #[.int .i64 0, .int .i64 1, .int .i64 0, .int .i64 1, .int .i64 1, .int .i64 1, .int .i64 1, .int .i64 2] 52) (.cells #[.slice (some ⟨w.heap.size, 0, none⟩) 3 3, .slice (some ⟨w.heap.size + 1, 0, none⟩) 2 2] 25)
  have hdl : DL (((w.alloc (.cells #[.int .i64 1, .int .i64 2, .int .i64 2] 3)).alloc (.cells #[.int .i64 0, .int .i64 1, .int .i64 0, .int .i64 1, .int .i64 1, .int .i64 1, .int .i64 1, .int .i64 2] 52)).alloc (.cells #[.slice (some ⟨w.heap.size, 0, none⟩) 3 3, .slice (some ⟨w.heap.size + 1, 0, none⟩) 2 2] 25)) 0 d0 (v0 w.heap.size) := by
    refine ⟨⟨rfl, fun _ => ⟨w.heap.size, 0, rfl, Nat.zero_le _, row_lt z0, fun j u hj => ?_⟩⟩, ⟨rfl, fun _ => ⟨w.heap.size + 1, 0, rfl, Nat.zero_le _, row_lt z1, fun j u hj => ?_⟩⟩⟩
    · rw [Nat.zero_add, cell_of_row _ _ _ _ _ _ z0, ← Array.getElem?_toList]
      exact hj
    · rw [Nat.zero_add, cell_of_row _ _ _ _ _ _ z1, ← Array.getElem?_toList]
      exact hj
  have hgd : gd d0 (v0 w.heap.size) = #[.slice (some ⟨w.heap.size, 0, none⟩) 3 3, .slice (some ⟨w.heap.size + 1, 0, none⟩) 2 2] := rfl
  have c0 : ((0 : Nat) : Int) = 0 := rfl
  have c1 : ((1 : Nat) : Int) = 1 := rfl
  have c2 : ((2 : Nat) : Int) = 2 := rfl
  obtain ⟨W, hW⟩ : ∃ W, ((w.alloc (.cells #[.int .i64 1, .int .i64 2, .int .i64 2] 3)).alloc (.cells #[.int .i64 0, .int .i64 1, .int .i64 0, .int .i64 1, .int .i64 1, .int .i64 1, .int .i64 1, .int .i64 2] 52)).alloc (.cells #[.slice (some ⟨w.heap.size, 0, none⟩) 3 3, .slice (some ⟨w.heap.size + 1, 0, none⟩) 2 2] 25) = W := ⟨_, rfl⟩
  rw [hW] at z2 hb0 hdl
  have z3 : W.heap[w.heap.size + 1 + 1]? = some (.cells #[.slice (some ⟨w.heap.size, 0, none⟩) 3 3, .slice (some ⟨w.heap.size + 1, 0, none⟩) 2 2] 25 (0, 0)) := z2
  have HZ2 := Lib.hid z3
  have HB0 := Lib.hid hb0
  have HW := Lib.hid hW
  clear z0 z1 z2 z3 hb0 hW
  have hwy : ∀ w', Below W.heap.size W w' → Calls Try.prog 28 #[.agg #[.slice (some ⟨w.heap.size, 0, none⟩) 3 3, .slice (some ⟨w.heap.size + 1, 0, none⟩) 2 2], .int .i64 0, .int .i64 2, .int .i64 1] w' (AwPost w') := fun w' hw => by
    have h := why_any 0 d0 (v0 w.heap.size) 0 2 1 w' (hdl.below hw) d0_ok
    simp only [hgd, c0, c1, c2] at h
    refine h.mono ?_
    rintro e w2 (⟨-, c, A, cc, rfl, hch, hrow, hb⟩ | ⟨hn, -⟩)
    · obtain rfl := d0_chain c hch
      exact ⟨A, cc, rfl, hrow.base (Nat.zero_le _), hb⟩
    · exact absurd d0_in02 hn
  have hck : ∀ w', Below W.heap.size W w' → Calls Try.prog 13 #[.agg #[.slice (some ⟨w.heap.size, 0, none⟩) 3 3, .slice (some ⟨w.heap.size + 1, 0, none⟩) 2 2]] w' fun e w'' => e = .returned (.int .i64 0) ∧ Below w'.heap.size w' w'' := fun w' hw => by
    have h := check_any 0 d0 (v0 w.heap.size) w' (hdl.below hw) d0_ok
    simp only [hgd] at h
    exact h
  have hi1 : ∀ w', Below W.heap.size W w' → Calls Try.prog 26 #[.agg #[.slice (some ⟨w.heap.size, 0, none⟩) 3 3, .slice (some ⟨w.heap.size + 1, 0, none⟩) 2 2], .int .i64 0, .int .i64 1, .int .i64 0] w' fun e w'' => e = .returned (.bool true) ∧ Below w'.heap.size w' w'' := fun w' hw => by
    have h := in26_any 0 d0 (v0 w.heap.size) 0 1 0 w' (hdl.below hw) d0_ok
    simp only [hgd, c0, c1, inB_yes d0_in01] at h
    exact h
  have hi2 : ∀ w', Below W.heap.size W w' → Calls Try.prog 26 #[.agg #[.slice (some ⟨w.heap.size, 0, none⟩) 3 3, .slice (some ⟨w.heap.size + 1, 0, none⟩) 2 2], .int .i64 0, .int .i64 2, .int .i64 0] w' fun e w'' => e = .returned (.bool false) ∧ Below w'.heap.size w' w'' := fun w' hw => by
    have h := in26_any 0 d0 (v0 w.heap.size) 0 2 0 w' (hdl.below hw) d0_ok
    simp only [hgd, c0, c2, inB_no d0_no02] at h
    exact h
  have hi3 : ∀ w', Below W.heap.size W w' → Calls Try.prog 26 #[.agg #[.slice (some ⟨w.heap.size, 0, none⟩) 3 3, .slice (some ⟨w.heap.size + 1, 0, none⟩) 2 2], .int .i64 0, .int .i64 2, .int .i64 1] w' fun e w'' => e = .returned (.bool true) ∧ Below w'.heap.size w' w'' := fun w' hw => by
    have h := in26_any 0 d0 (v0 w.heap.size) 0 2 1 w' (hdl.below hw) d0_ok
    simp only [hgd, c0, c1, c2, inB_yes d0_in02] at h
    exact h
  have HWY := Lib.hid hwy
  have HCK := Lib.hid hck
  have H1 := Lib.hid hi1
  have H2 := Lib.hid hi2
  have H3 := Lib.hid hi3
  have HR := Lib.hid (Below.refl W.heap.size W)
  have HGC := Lib.hid (fun w' (hw : Below W.heap.size W w') => gc2 ((hw.block _ (row_lt HZ2.out)).trans HZ2.out))
  clear hwy hck hi1 hi2 hi3 hdl hgd c0 c1 c2
  go_enter Try.func10, Try.ntmps10
  go_wp2_with fail
  rw [HW.out]
  refine (HWY.out _ HR.out).mono ?_
  rintro e w1 ⟨A, cc, rfl, hrow, hb1⟩
  have B1 := Lib.hid hb1
  have HR1 := Lib.hid hrow
  obtain ⟨g0, g1⟩ := HGC.out _ hb1
  clear hrow hb1
  go_wp2_with (first
    | (go_at_call 13; (with_reducible refine (HCK.out _ B1.out).mono ?_); rintro e w2 ⟨rfl, hb2⟩; have B2 := Lib.hid (B1.out.trans (hb2.mono B1.out.size)); have HR2 := Lib.hid (HR1.out.below hb2); have hb3 := box_below w2 (.cells #[.int .i64 0, .int .i64 1, .int .i64 2] 3); have HL3 := Lib.hid (lits_row w2 w2.heap.size rfl [0, 1, 2] #[.int .i64 0, .int .i64 1, .int .i64 2] rfl 3); have B3 := Lib.hid (B2.out.trans (hb3.mono B2.out.size)); have HIS := Lib.hid (ints_same A (some ⟨w2.heap.size, 0, none⟩) 3 cc 3 [0, 1, 2] (w2.alloc (.cells #[.int .i64 0, .int .i64 1, .int .i64 2] 3)) (HR2.out.below hb3) (HL3.out.base (Nat.zero_le _)) (by omega)); clear hb2 hb3)
    | (go_at_call 17; (with_reducible refine HIS.out.mono ?_); rintro e w4 ⟨rfl, hb4⟩; have B4 := Lib.hid (B3.out.trans (hb4.mono B3.out.size)); obtain ⟨k0, k1⟩ := HGC.out _ B4.out; clear hb4)
    | (go_at_call 26; (with_reducible refine (H1.out _ B4.out).mono ?_); rintro e w5 ⟨rfl, hb5⟩; have B5 := Lib.hid (B4.out.trans (hb5.mono B4.out.size)); obtain ⟨l0, l1⟩ := HGC.out _ B5.out; clear hb5)
    | (go_at_call 26; (with_reducible refine (H2.out _ B5.out).mono ?_); rintro e w6 ⟨rfl, hb6⟩; have B6 := Lib.hid (B5.out.trans (hb6.mono B5.out.size)); obtain ⟨m0', m1'⟩ := HGC.out _ B6.out; clear hb6)
    | (go_at_call 26; (with_reducible refine (H3.out _ B6.out).mono ?_); rintro e w7 ⟨rfl, hb7⟩; have B7 := Lib.hid (B6.out.trans (hb7.mono B6.out.size)); clear hb7))
  go_ret
  exact ⟨by first | rfl | simp, HB0.out.trans (B7.out.mono HB0.out.size)⟩

end Go.Proofs.Ytdhofngildjifaa.Di
