import Derived.Test.YtgknfkmojhganaaGreatDiG
namespace Go.Proofs.YtgknfkmojhganaaGreat.Di
open Go.RowKit
open Go.Proofs.YtgknfkmojhganaaGreat.Tp
set_option linter.unusedVariables false

set_option maxRecDepth 100000 in
set_option maxHeartbeats 1000000 in
theorem some54_any (B : Nat) (d : Dy) (v : Vd) (p : Nat → Bool) (ca : Array Value) (w : World) (h : DL w B d v) (hn : d.k.length ≤ 100)
    (hp : ∀ i, i < d.k.length → ∀ w', Below w.heap.size w w' → Calls Tryz.prog 123 (#[.int .i64 (i : Int)] ++ ca) w' fun e w'' => e = .returned (.bool (p i)) ∧ Below w'.heap.size w' w'') :
    Calls Tryz.prog 106 #[.agg (gd d v), .func (.func 123) #[] ca] w (SmPost p d.k.length w) := by
  have HB0 := Lib.hid (box_below w (.cells (gd d v) 25))
  have R0 := Lib.hid (heap_alloc_new w (.cells (gd d v) 25))
  obtain ⟨g0, g1⟩ := gdCells R0.out
  have HP := Lib.hid hp
  clear h hp
  obtain ⟨i0, hi1, hz0, hz1, hz2⟩ := info_parts zinfo3
  have HI := Lib.hid hi1
  have HI0 := Lib.hid hz0
  have HI1 := Lib.hid hz1
  have HI2 := Lib.hid hz2
  clear hi1 hz0 hz1 hz2
  go_enter Tryz.func106, Tryz.ntmps106
  go_wp2_with fail
  clear g0 g1
  have hz : w.heap.size < (w.alloc (.cells (gd d v) 25)).heap.size := by simp
  clear R0
  generalize w.alloc (.cells (gd d v) 25) = W0 at *
  go_loopw [5, 10] (fun ov ii wr => ∃ k : Nat, k ≤ d.k.length ∧ ii = .int .i64 k ∧ wr.ownsRow (w.heap.size + 1) 3 1 ov (cnt p k) (iv (idx p k)) ∧ w.heap.size < wr.heap.size ∧ Below w.heap.size w wr) (fun _ ii _ => d.k.length - (intOf ii).toNat)
  case atStart => exact ⟨0, by omega, rfl, own_nil _ _ _ _, hz, HB0.out⟩
  case round =>
    obtain ⟨k, hk, rfl, hown, hzr, hbl⟩ := hrel
    have HOWN := Lib.hid hown
    have HBL := Lib.hid hbl
    clear hown hbl
    by_cases hlt : k < d.k.length
    · have hcn := cnt_le p k
      have HC := Lib.hid (HP.out k hlt wr HBL.out)
      have j1 : (k : Int) < (d.k.length : Int) := by omega
      cases hpk : p k with
      | true =>
        have HCN := Lib.hid (show cnt p (k + 1) = cnt p k + 1 by rw [cnt, if_pos hpk])
        have HIX := Lib.hid (show iv (idx p (k + 1)) = iv (idx p k) ++ [.int .i64 (k : Int)] by rw [idx, if_pos hpk, iv_snoc])
        rw [hpk] at HC
        clear hpk
        go_wp2_with (first
          | (go_at_call 123; refine HC.out.mono ?_; rintro e w2 ⟨rfl, hb2⟩; have HB2 := Lib.hid (HBL.out.trans (hb2.mono HBL.out.size)); have HO2 := Lib.hid (own_below HOWN.out hb2); have hl2 : w.heap.size + 1 ≤ w2.heap.size := (by have := hb2.size; omega); clear hb2)
          | (at_builtin; refine wpList_append_own _ rfl (.tmp 16) (.tmp 18) 22 rfl (w.heap.size + 1) 3 i0 (.int .i64 0) 1 8 Tryz.underlying22 HI.out HI0.out HI1.out HI2.out rfl (by decide) _ (cnt p k) (iv (idx p k)) rfl (HO2.out.alloc _) ⟨w2.heap.size, 0, none⟩ 1 1 [.int .i64 (k : Int)] rfl rfl (World.news_of_block (heap_alloc_new w2 _)) (by simp [Value.oneCell']) (by unfold maxLen; omega) (by omega) (by simp; omega) ?_; intro v' w6 hown hgr _; have HOWN6 := Lib.hid hown; have HB6 := Lib.hid (far_below HB2.out HO2.out hgr (by omega)); have hl6 : w.heap.size < w6.heap.size := (by have := hgr.size; simp at this; omega); clear hown hgr))
        exact ⟨⟨k + 1, by omega, by go_num, by rw [HCN.out, HIX.out]; exact HOWN6.out, hl6, HB6.out⟩, by simp [intOf]; omega⟩
      | false =>
        have HCN := Lib.hid (show cnt p (k + 1) = cnt p k by rw [cnt, if_neg (by rw [hpk]; decide)]; rfl)
        have HIX := Lib.hid (show idx p (k + 1) = idx p k by rw [idx, if_neg (by rw [hpk]; decide)])
        rw [hpk] at HC
        clear hpk
        go_wp2_with (go_at_call 123; refine HC.out.mono ?_; rintro e w2 ⟨rfl, hb2⟩; have HB2 := Lib.hid (HBL.out.trans (hb2.mono HBL.out.size)); have HO2 := Lib.hid (own_below HOWN.out hb2); have hl2 : w.heap.size < w2.heap.size := (by have := hb2.size; omega); clear hb2)
        exact ⟨⟨k + 1, by omega, by go_num, by rw [HCN.out, HIX.out]; exact HO2.out, hl2, HB2.out⟩, by simp [intOf]; omega⟩
    · obtain rfl : k = d.k.length := by omega
      obtain ⟨A, cc, rfl⟩ := own_form HOWN.out
      go_wp2_with fail
      go_ret
      exact ⟨A, cc, by first | rfl | simp, own_base HOWN.out (Nat.le_succ _), HBL.out⟩

set_option maxRecDepth 100000 in
set_option maxHeartbeats 1000000 in
theorem some59_any (B : Nat) (d : Dy) (v : Vd) (p : Nat → Bool) (ca : Array Value) (w : World) (h : DL w B d v) (hn : d.k.length ≤ 100)
    (hp : ∀ i, i < d.k.length → ∀ w', Below w.heap.size w w' → Calls Tryz.prog 107 (#[.int .i64 (i : Int)] ++ ca) w' fun e w'' => e = .returned (.bool (p i)) ∧ Below w'.heap.size w' w'') :
    Calls Tryz.prog 106 #[.agg (gd d v), .func (.func 107) #[] ca] w (SmPost p d.k.length w) := by
  have HB0 := Lib.hid (box_below w (.cells (gd d v) 25))
  have R0 := Lib.hid (heap_alloc_new w (.cells (gd d v) 25))
  obtain ⟨g0, g1⟩ := gdCells R0.out
  have HP := Lib.hid hp
  clear h hp
  obtain ⟨i0, hi1, hz0, hz1, hz2⟩ := info_parts zinfo3
  have HI := Lib.hid hi1
  have HI0 := Lib.hid hz0
  have HI1 := Lib.hid hz1
  have HI2 := Lib.hid hz2
  clear hi1 hz0 hz1 hz2
  go_enter Tryz.func106, Tryz.ntmps106
  go_wp2_with fail
  clear g0 g1
  have hz : w.heap.size < (w.alloc (.cells (gd d v) 25)).heap.size := by simp
  clear R0
  generalize w.alloc (.cells (gd d v) 25) = W0 at *
  go_loopw [5, 10] (fun ov ii wr => ∃ k : Nat, k ≤ d.k.length ∧ ii = .int .i64 k ∧ wr.ownsRow (w.heap.size + 1) 3 1 ov (cnt p k) (iv (idx p k)) ∧ w.heap.size < wr.heap.size ∧ Below w.heap.size w wr) (fun _ ii _ => d.k.length - (intOf ii).toNat)
  case atStart => exact ⟨0, by omega, rfl, own_nil _ _ _ _, hz, HB0.out⟩
  case round =>
    obtain ⟨k, hk, rfl, hown, hzr, hbl⟩ := hrel
    have HOWN := Lib.hid hown
    have HBL := Lib.hid hbl
    clear hown hbl
    by_cases hlt : k < d.k.length
    · have hcn := cnt_le p k
      have HC := Lib.hid (HP.out k hlt wr HBL.out)
      have j1 : (k : Int) < (d.k.length : Int) := by omega
      cases hpk : p k with
      | true =>
        have HCN := Lib.hid (show cnt p (k + 1) = cnt p k + 1 by rw [cnt, if_pos hpk])
        have HIX := Lib.hid (show iv (idx p (k + 1)) = iv (idx p k) ++ [.int .i64 (k : Int)] by rw [idx, if_pos hpk, iv_snoc])
        rw [hpk] at HC
        clear hpk
        go_wp2_with (first
          | (go_at_call 107; refine HC.out.mono ?_; rintro e w2 ⟨rfl, hb2⟩; have HB2 := Lib.hid (HBL.out.trans (hb2.mono HBL.out.size)); have HO2 := Lib.hid (own_below HOWN.out hb2); have hl2 : w.heap.size + 1 ≤ w2.heap.size := (by have := hb2.size; omega); clear hb2)
          | (at_builtin; refine wpList_append_own _ rfl (.tmp 16) (.tmp 18) 22 rfl (w.heap.size + 1) 3 i0 (.int .i64 0) 1 8 Tryz.underlying22 HI.out HI0.out HI1.out HI2.out rfl (by decide) _ (cnt p k) (iv (idx p k)) rfl (HO2.out.alloc _) ⟨w2.heap.size, 0, none⟩ 1 1 [.int .i64 (k : Int)] rfl rfl (World.news_of_block (heap_alloc_new w2 _)) (by simp [Value.oneCell']) (by unfold maxLen; omega) (by omega) (by simp; omega) ?_; intro v' w6 hown hgr _; have HOWN6 := Lib.hid hown; have HB6 := Lib.hid (far_below HB2.out HO2.out hgr (by omega)); have hl6 : w.heap.size < w6.heap.size := (by have := hgr.size; simp at this; omega); clear hown hgr))
        exact ⟨⟨k + 1, by omega, by go_num, by rw [HCN.out, HIX.out]; exact HOWN6.out, hl6, HB6.out⟩, by simp [intOf]; omega⟩
      | false =>
        have HCN := Lib.hid (show cnt p (k + 1) = cnt p k by rw [cnt, if_neg (by rw [hpk]; decide)]; rfl)
        have HIX := Lib.hid (show idx p (k + 1) = idx p k by rw [idx, if_neg (by rw [hpk]; decide)])
        rw [hpk] at HC
        clear hpk
        go_wp2_with (go_at_call 107; refine HC.out.mono ?_; rintro e w2 ⟨rfl, hb2⟩; have HB2 := Lib.hid (HBL.out.trans (hb2.mono HBL.out.size)); have HO2 := Lib.hid (own_below HOWN.out hb2); have hl2 : w.heap.size < w2.heap.size := (by have := hb2.size; omega); clear hb2)
        exact ⟨⟨k + 1, by omega, by go_num, by rw [HCN.out, HIX.out]; exact HO2.out, hl2, HB2.out⟩, by simp [intOf]; omega⟩
    · obtain rfl : k = d.k.length := by omega
      obtain ⟨A, cc, rfl⟩ := own_form HOWN.out
      go_wp2_with fail
      go_ret
      exact ⟨A, cc, by first | rfl | simp, own_base HOWN.out (Nat.le_succ _), HBL.out⟩


end Go.Proofs.YtgknfkmojhganaaGreat.Di
