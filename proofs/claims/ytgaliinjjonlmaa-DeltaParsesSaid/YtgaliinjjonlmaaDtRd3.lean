import Derived.Test.YtgaliinjjonlmaaDtRd2
import Derived.BigRegion
namespace Go.Proofs.Ytgaliinjjonlmaa.Dt
open Go.RowKit
open Go.Proofs.Ytgaliinjjonlmaa.Tp
set_option linter.unusedVariables false

theorem num_val (n : Nat) (h : n ≤ 60000) : n / 65536 % 256 * 65536 + n / 256 % 256 * 256 + n % 256 = n := by omega
theorem below_set3 {B g : Nat} {w w4 : World} (h : Below B w w4) (hg : B ≤ g) (x y z : Value) : Below B w (((w4.setCell ⟨g, 0, none⟩ x).setCell ⟨g, 1, none⟩ y).setCell ⟨g, 2, none⟩ z) :=
  ((h.setCell hg _).setCell hg _).setCell hg _
theorem mod_le (n : Nat) : n % 256 ≤ 255 := by omega

set_option maxRecDepth 100000 in
set_option maxHeartbeats 2000000 in
theorem read_cpy (b off L c F S : Nat) (rest : List Nat) (w : World) (h : By w (.slice (some ⟨b, off, none⟩) L c) ([1] ++ num F ++ num S ++ rest)) (hF : F ≤ 60000) (hS : 1 ≤ S) (hS2 : S ≤ 60000) (hL : L ≤ 60000) :
    Calls Try.prog 61 #[.slice (some ⟨b, off, none⟩) L c] w fun e w' => e = .returned (.tuple #[.agg #[.int .i64 (F : Int), .int .i64 (S : Int), .slice none 0 0], .int .i64 7, .bool true]) ∧ Below w.heap.size w w' := by
  obtain ⟨hlen, hlt⟩ : L = 7 + rest.length ∧ b < w.heap.size := by
    rcases h.2 with ⟨e, _⟩ | ⟨b', off', c', e, h1, _, h3, _⟩
    · cases e
    · cases e
      refine ⟨by simp [num]; omega, h3⟩
  have hB1 : Below w.heap.size w (w.alloc (.cells #[.slice (some ⟨b, off, none⟩) L c] 23)) := box_below _ _
  have hB2 := hB1.trans ((box_below (w.alloc (.cells #[.slice (some ⟨b, off, none⟩) L c] 23)) (.cells #[.int .i64 0, .int .i64 0, .slice none 0 0] 54)).mono hB1.size)
  have hG : ((w.alloc (.cells #[.slice (some ⟨b, off, none⟩) L c] 23)).alloc (.cells #[.int .i64 0, .int .i64 0, .slice none 0 0] 54)).heap[w.heap.size]? = some (.cells #[.slice (some ⟨b, off, none⟩) L c] 23 (0, 0)) :=
    ((box_below _ _).block w.heap.size (by simp)).trans (heap_alloc_new w _)
  have hR := heap_alloc_new (w.alloc (.cells #[.slice (some ⟨b, off, none⟩) L c] 23)) (.cells #[.int .i64 0, .int .i64 0, .slice none 0 0] 54)
  generalize hW : (w.alloc (.cells #[.slice (some ⟨b, off, none⟩) L c] 23)).alloc (.cells #[.int .i64 0, .int .i64 0, .slice none 0 0] 54) = W at *
  have hby := h.below hB2
  have hcs : ∀ W', Below W.heap.size W W' → ∀ j, j < L → W'.cell? ⟨b, off + j, none⟩ = some (.int .u8 ((([1] ++ num F ++ num S ++ rest).getD j 0 : Nat) : Int)) := by
    intro W' hw
    rcases (hby.below hw).2 with ⟨e, _⟩ | ⟨b', off', c', e, _, _, _, h4⟩
    · cases e
    · cases e
      exact h4
  have q0 : W.cell? ⟨b, off, none⟩ = some (.int .u8 1) := by have := hcs W (Below.refl _ _) 0 (by omega); simpa using this
  have hn1 := readnum_any w.heap.size b off L c _ _ _ 1 W (cell_of_one hG) (by omega) (by omega) (hcs W (Below.refl _ _) 1 (by omega)) (hcs W (Below.refl _ _) 2 (by omega)) (hcs W (Below.refl _ _) 3 (by omega)) (mod_le _) (mod_le _) (mod_le _)
  have hv1 : ([1] ++ num F ++ num S ++ rest).getD 1 0 * 65536 + ([1] ++ num F ++ num S ++ rest).getD 2 0 * 256 + ([1] ++ num F ++ num S ++ rest).getD 3 0 = F := num_val F hF
  rw [hv1] at hn1
  have hv2 : ([1] ++ num F ++ num S ++ rest).getD 4 0 * 65536 + ([1] ++ num F ++ num S ++ rest).getD 5 0 * 256 + ([1] ++ num F ++ num S ++ rest).getD 6 0 = S := num_val S hS2
  have hn2 := fun W' (hw : Below W.heap.size W W') => readnum_any w.heap.size b off L c _ _ _ 4 W' (cell_of_one ((hw.block _ (lt_of_block hG)).trans hG)) (by omega) (by omega) (hcs W' hw 4 (by omega)) (hcs W' hw 5 (by omega)) (hcs W' hw 6 (by omega)) (mod_le _) (mod_le _) (mod_le _)
  rw [hv2] at hn2
  have g0 := cell_of_one hG
  have HN1 := Lib.hid hn1
  have HN2 := Lib.hid hn2
  have hR' : W.heap[w.heap.size + 1]? = some (.cells #[.int .i64 0, .int .i64 0, .slice none 0 0] 54 (0, 0)) := by simpa using hR
  have HR := Lib.hid hR'
  have HB2 := Lib.hid hB2
  have f7 : (7 : Int) ≤ (L : Int) := by omega
  have f4 : (0 : Int) < (L : Int) := by omega
  have s1 : (1 : Int) ≤ (S : Int) := by omega
  have s2 : decide ((S : Int) ≤ 65536) = true := decide_eq_true (by omega)
  have s3 : decide ((F : Int) ≤ 65536) = true := decide_eq_true (by omega)
  clear h hlen hB1 hR hR' hG hby hcs hn1 hn2 hv1 hv2 hB2
  subst hW
  go_enter Try.func61, Try.ntmps61
  go_wp2_with fail
  refine HN1.out.mono ?_
  rintro e w3 ⟨rfl, hb3⟩
  have hr3 := (hb3.block (w.heap.size + 1) (lt_of_block HR.out)).trans HR.out
  have HR3 := Lib.hid hr3
  have HB3 := Lib.hid hb3
  clear g0 q0 hr3 hb3
  go_wp2_with fail
  refine (HN2.out _ HB3.out).mono ?_
  rintro e w4 ⟨rfl, hb4⟩
  have hr4 := (hb4.block (w.heap.size + 1) (lt_of_block HR3.out)).trans HR3.out
  have hl4 := lt_of_block hr4
  have hx := heap_alloc_new w4 (.cells #[.int .i64 (F : Int), .int .i64 (S : Int), .slice none 0 0] 54)
  have hr5 := ((box_below w4 (.cells #[.int .i64 (F : Int), .int .i64 (S : Int), .slice none 0 0] 54)).block _ hl4).trans hr4
  have HB5 := Lib.hid (HB2.out.trans ((HB3.out.trans ((hb4.trans ((box_below w4 (.cells #[.int .i64 (F : Int), .int .i64 (S : Int), .slice none 0 0] 54)).mono hb4.size)).mono HB3.out.size)).mono HB2.out.size))
  obtain ⟨c0, c1, c2, z0, z1, z2⟩ := rowFacts3 hr4
  obtain ⟨d0, d1, d2⟩ := opCells _ _ _ _ _ _ _ hx
  have HR4 := Lib.hid hr4
  have HB4 := Lib.hid (HB2.out.trans ((HB3.out.trans (hb4.mono HB3.out.size)).mono HB2.out.size))
  clear hr4 hr5 hx hb4
  go_wp2_with fail
  go_region
  all_goals
    go_wp2
    have hq := heap_setCell_same _ _ 2 _ _ (.slice none 0 0) (heap_setCell_same _ _ 1 _ _ (.int .i64 (S : Int)) (heap_setCell_same _ _ 0 _ _ (.int .i64 (F : Int)) HR4.out))
    have hq2 := ((box_below _ (.cells #[.int .i64 (F : Int), .int .i64 (S : Int), .slice none 0 0] 54)).block _ (lt_of_block hq)).trans hq
    have hbl := below_set3 (g := w.heap.size + 1) HB4.out (by omega) (.int .i64 (F : Int)) (.int .i64 (S : Int)) (.slice none 0 0)
    refine bodyPost_ret (v := .tuple #[.agg #[.int .i64 (F : Int), .int .i64 (S : Int), .slice none 0 0], .int .i64 7, .bool true]) (results_cell_row3 (fn := Try.f61) (p := 2) (u := 3) (u2 := 4) rfl _ _ (w.heap.size + 1) 54 #[.int .i64 (F : Int), .int .i64 (S : Int), .slice none 0 0] (0, 0) _ rfl hq2 Try.underlying54 rfl (info54 _ _ _)) rfl ?_
    exact ⟨rfl, below_drewN' (hbl.trans ((box_below _ (.cells #[.int .i64 (F : Int), .int .i64 (S : Int), .slice none 0 0] 54)).mono hbl.size)) 1⟩

end Go.Proofs.Ytgaliinjjonlmaa.Dt
