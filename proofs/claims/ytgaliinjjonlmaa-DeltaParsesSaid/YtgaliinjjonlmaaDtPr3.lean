import Derived.Test.YtgaliinjjonlmaaDtPr2
namespace Go.Proofs.Ytgaliinjjonlmaa.Dt
open Go.RowKit
open Go.Proofs.Ytgaliinjjonlmaa.Tp
set_option linter.unusedVariables false

def NoRead (w : World) (e : Ending) (w' : World) : Prop := e = .returned (.tuple #[.agg #[.int .i64 0, .int .i64 0, .slice none 0 0], .int .i64 0, .bool false]) ∧ Below w.heap.size w w'

set_option maxRecDepth 100000 in
set_option maxHeartbeats 2000000 in
theorem read_no1 (b off L c : Nat) (bs : List Nat) (w : World) (h : By w (.slice (some ⟨b, off, none⟩) L c) bs) (hl : bs.length = L) (h0 : 1 ≤ L) (hL : L ≤ 60000) (hc : L < 4 ∨ (bs.getD 0 0 ≠ 0 ∧ (L < 7 ∨ bs.getD 0 0 ≠ 1))) :
    Calls Try.prog 61 #[.slice (some ⟨b, off, none⟩) L c] w (NoRead w) := by
  have hB1 : Below w.heap.size w (w.alloc (.cells #[.slice (some ⟨b, off, none⟩) L c] 23)) := box_below _ _
  have hB2 := hB1.trans ((box_below (w.alloc (.cells #[.slice (some ⟨b, off, none⟩) L c] 23)) (.cells #[.int .i64 0, .int .i64 0, .slice none 0 0] 54)).mono hB1.size)
  have hG : ((w.alloc (.cells #[.slice (some ⟨b, off, none⟩) L c] 23)).alloc (.cells #[.int .i64 0, .int .i64 0, .slice none 0 0] 54)).heap[w.heap.size]? = some (.cells #[.slice (some ⟨b, off, none⟩) L c] 23 (0, 0)) :=
    ((box_below _ _).block w.heap.size (by simp)).trans (heap_alloc_new w _)
  have hR := heap_alloc_new (w.alloc (.cells #[.slice (some ⟨b, off, none⟩) L c] 23)) (.cells #[.int .i64 0, .int .i64 0, .slice none 0 0] 54)
  generalize hW : (w.alloc (.cells #[.slice (some ⟨b, off, none⟩) L c] 23)).alloc (.cells #[.int .i64 0, .int .i64 0, .slice none 0 0] 54) = W at *
  obtain ⟨b', off', e, _, _, hcs⟩ := (h.below hB2).cells hl (by omega)
  cases e
  have q0 := hcs 0 (by omega)
  rw [Nat.add_zero] at q0
  have g0 := cell_of_one hG
  have hR' : W.heap[w.heap.size + 1]? = some (.cells #[.int .i64 0, .int .i64 0, .slice none 0 0] 54 (0, 0)) := by simpa using hR
  obtain ⟨c0, c1, c2, z0, z1, z2⟩ := rowFacts3 hR'
  have HR := Lib.hid hR'
  have HB2 := Lib.hid hB2
  have f4 : (0 : Int) < (L : Int) := by omega
  have hx255 := getD_le h.1 0
  clear h hB1 hR hR' hG hcs hB2
  generalize bs.getD 0 0 = x at *
  by_cases h4 : L < 4
  · have f7 : decide ((7 : Int) ≤ (L : Int)) = false := decide_eq_false (by omega)
    have f5 : (L : Int) < 4 := by omega
    subst hW
    go_enter Try.func61, Try.ntmps61
    go_wp2_with fail
    refine bodyPost_ret (v := .tuple #[.agg #[.int .i64 0, .int .i64 0, .slice none 0 0], .int .i64 0, .bool false]) (results_cell_row3 (fn := Try.f61) (p := 2) (u := 3) (u2 := 4) rfl _ _ (w.heap.size + 1) 54 #[.int .i64 0, .int .i64 0, .slice none 0 0] (0, 0) _ rfl HR.out Try.underlying54 rfl (info54 _ _ _)) rfl ?_
    exact ⟨rfl, HB2.out⟩
  · obtain ⟨hx0, hx1⟩ := hc.resolve_left h4
    have f5 : ¬ (L : Int) < 4 := by omega
    have e0 : ¬ (x : Int) = 0 := by omega
    have e1 : ((x : Int) == 0) = false := beq_eq_false_iff_ne.2 e0
    by_cases h7 : L < 7
    · have f7 : decide ((7 : Int) ≤ (L : Int)) = false := decide_eq_false (by omega)
      clear hc hx1
      subst hW
      go_enter Try.func61, Try.ntmps61
      go_wp2_with fail
      refine bodyPost_ret (v := .tuple #[.agg #[.int .i64 0, .int .i64 0, .slice none 0 0], .int .i64 0, .bool false]) (results_cell_row3 (fn := Try.f61) (p := 2) (u := 3) (u2 := 4) rfl _ _ (w.heap.size + 1) 54 #[.int .i64 0, .int .i64 0, .slice none 0 0] (0, 0) _ rfl HR.out Try.underlying54 rfl (info54 _ _ _)) rfl ?_
      exact ⟨rfl, HB2.out⟩
    · have hx1' := hx1.resolve_left h7
      have f7 : (7 : Int) ≤ (L : Int) := by omega
      have e2 : ¬ (x : Int) = 1 := by omega
      have e3 : ((x : Int) == 1) = false := beq_eq_false_iff_ne.2 e2
      clear hc hx1 hx1'
      subst hW
      go_enter Try.func61, Try.ntmps61
      go_wp2_with fail
      refine bodyPost_ret (v := .tuple #[.agg #[.int .i64 0, .int .i64 0, .slice none 0 0], .int .i64 0, .bool false]) (results_cell_row3 (fn := Try.f61) (p := 2) (u := 3) (u2 := 4) rfl _ _ (w.heap.size + 1) 54 #[.int .i64 0, .int .i64 0, .slice none 0 0] (0, 0) _ rfl HR.out Try.underlying54 rfl (info54 _ _ _)) rfl ?_
      exact ⟨rfl, HB2.out⟩

set_option maxRecDepth 100000 in
set_option maxHeartbeats 2000000 in
theorem read_no2 (b off L c : Nat) (bs : List Nat) (w : World) (h : By w (.slice (some ⟨b, off, none⟩) L c) bs) (hl : bs.length = L) (h0 : 4 ≤ L) (hL : L ≤ 60000) (hb0 : bs.getD 0 0 = 0) (hc : num3 bs 1 < 1 ∨ L - 4 < num3 bs 1) :
    Calls Try.prog 61 #[.slice (some ⟨b, off, none⟩) L c] w (NoRead w) := by
  have hB1 : Below w.heap.size w (w.alloc (.cells #[.slice (some ⟨b, off, none⟩) L c] 23)) := box_below _ _
  have hB2 := hB1.trans ((box_below (w.alloc (.cells #[.slice (some ⟨b, off, none⟩) L c] 23)) (.cells #[.int .i64 0, .int .i64 0, .slice none 0 0] 54)).mono hB1.size)
  have hG : ((w.alloc (.cells #[.slice (some ⟨b, off, none⟩) L c] 23)).alloc (.cells #[.int .i64 0, .int .i64 0, .slice none 0 0] 54)).heap[w.heap.size]? = some (.cells #[.slice (some ⟨b, off, none⟩) L c] 23 (0, 0)) :=
    ((box_below _ _).block w.heap.size (by simp)).trans (heap_alloc_new w _)
  have hR := heap_alloc_new (w.alloc (.cells #[.slice (some ⟨b, off, none⟩) L c] 23)) (.cells #[.int .i64 0, .int .i64 0, .slice none 0 0] 54)
  generalize hW : (w.alloc (.cells #[.slice (some ⟨b, off, none⟩) L c] 23)).alloc (.cells #[.int .i64 0, .int .i64 0, .slice none 0 0] 54) = W at *
  obtain ⟨b', off', e, _, _, hcs⟩ := (h.below hB2).cells hl (by omega)
  cases e
  have q0 := hcs 0 (by omega)
  rw [Nat.add_zero, hb0] at q0
  have hn := readnum_any w.heap.size b off L c _ _ _ 1 W (cell_of_one hG) (by omega) (by omega) (hcs 1 (by omega)) (hcs 2 (by omega)) (hcs 3 (by omega)) (getD_le h.1 1) (getD_le h.1 2) (getD_le h.1 3)
  have hK : bs.getD 1 0 * 65536 + bs.getD 2 0 * 256 + bs.getD 3 0 = num3 bs 1 := rfl
  have hK2 : num3 bs 1 ≤ 16777215 := by
    have := getD_le h.1 1
    have := getD_le h.1 (1 + 1)
    have := getD_le h.1 (1 + 2)
    unfold num3
    omega
  rw [hK] at hn
  have g0 := cell_of_one hG
  have HG := Lib.hid hG
  have hR' : W.heap[w.heap.size + 1]? = some (.cells #[.int .i64 0, .int .i64 0, .slice none 0 0] 54 (0, 0)) := by simpa using hR
  have HR := Lib.hid hR'
  have HB2 := Lib.hid hB2
  have HN := Lib.hid hn
  have f4 : (0 : Int) < (L : Int) := by omega
  have f5 : ¬ (L : Int) < 4 := by omega
  clear h hB1 hR hR' hG hcs hB2 hn hK hb0
  generalize num3 bs 1 = K at *
  have fin : ∀ W3 : World, Below w.heap.size w W3 → W3.heap[w.heap.size + 1]? = some (.cells #[.int .i64 0, .int .i64 0, .slice none 0 0] 54 (0, 0)) → True := fun _ _ _ => trivial
  clear fin
  have walk : ∀ q : Bool, decide ((7 : Int) ≤ (L : Int)) = q → Calls Try.prog 61 #[.slice (some ⟨b, off, none⟩) L c] w (NoRead w) := by
    intro q f7
    by_cases k1 : (K : Int) < 1
    · cases q <;> (
        subst hW
        go_enter Try.func61, Try.ntmps61
        go_wp2_with fail
        refine HN.out.mono ?_
        rintro e w3 ⟨rfl, hb3⟩
        have hr3 := (hb3.block (w.heap.size + 1) (lt_of_block HR.out)).trans HR.out
        obtain ⟨c0, c1, c2, z0, z1, z2⟩ := rowFacts3 hr3
        have g3 := cell_of_one ((hb3.block w.heap.size (lt_of_block HG.out)).trans HG.out)
        have HR3 := Lib.hid hr3
        have HB3 := Lib.hid (HB2.out.trans (hb3.mono HB2.out.size))
        clear g0 q0 hr3 hb3
        go_wp2_with fail
        refine bodyPost_ret (v := .tuple #[.agg #[.int .i64 0, .int .i64 0, .slice none 0 0], .int .i64 0, .bool false]) (results_cell_row3 (fn := Try.f61) (p := 2) (u := 3) (u2 := 4) rfl _ _ (w.heap.size + 1) 54 #[.int .i64 0, .int .i64 0, .slice none 0 0] (0, 0) _ rfl (heap_setCell_same _ _ 2 _ _ (.slice none 0 0) (heap_setCell_same _ _ 1 _ _ (.int .i64 0) (heap_setCell_same _ _ 0 _ _ (.int .i64 0) HR3.out))) Try.underlying54 rfl (info54 _ _ _)) rfl ?_
        exact ⟨rfl, below_set3 HB3.out (by omega) _ _ _⟩)
    · have k2 : (L : Int) - 4 < (K : Int) := by omega
      obtain ⟨q5, hq5⟩ : ∃ q5, decide ((65536 : Int) < (K : Int)) = q5 := ⟨_, rfl⟩
      cases q <;> cases q5 <;> (
        subst hW
        go_enter Try.func61, Try.ntmps61
        go_wp2_with fail
        refine HN.out.mono ?_
        rintro e w3 ⟨rfl, hb3⟩
        have hr3 := (hb3.block (w.heap.size + 1) (lt_of_block HR.out)).trans HR.out
        obtain ⟨c0, c1, c2, z0, z1, z2⟩ := rowFacts3 hr3
        have g3 := cell_of_one ((hb3.block w.heap.size (lt_of_block HG.out)).trans HG.out)
        have HR3 := Lib.hid hr3
        have HB3 := Lib.hid (HB2.out.trans (hb3.mono HB2.out.size))
        clear g0 q0 hr3 hb3
        go_wp2_with fail
        refine bodyPost_ret (v := .tuple #[.agg #[.int .i64 0, .int .i64 0, .slice none 0 0], .int .i64 0, .bool false]) (results_cell_row3 (fn := Try.f61) (p := 2) (u := 3) (u2 := 4) rfl _ _ (w.heap.size + 1) 54 #[.int .i64 0, .int .i64 0, .slice none 0 0] (0, 0) _ rfl (heap_setCell_same _ _ 2 _ _ (.slice none 0 0) (heap_setCell_same _ _ 1 _ _ (.int .i64 0) (heap_setCell_same _ _ 0 _ _ (.int .i64 0) HR3.out))) Try.underlying54 rfl (info54 _ _ _)) rfl ?_
        exact ⟨rfl, below_set3 HB3.out (by omega) _ _ _⟩)
  exact walk _ rfl

end Go.Proofs.Ytgaliinjjonlmaa.Dt
