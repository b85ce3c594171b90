import Derived.Test.YtlmpbfijgnkpkaaOwE
namespace Go.Proofs.Ytlmpbfijgnkpkaa.Di
open Go.RowKit
open Go.Proofs.Ytlmpbfijgnkpkaa.Tp
set_option linter.unusedVariables false

set_option maxRecDepth 100000 in
set_option maxHeartbeats 400000 in
theorem cl38_call (x : Int) (b : Bool) (w : World) : Calls Try.prog 38 (#[.int .i64 x, .bool b] ++ #[]) w fun e w' => e = .returned (.bool (!b)) ∧ Below w.heap.size w w' := by
  show Calls Try.prog 38 #[.int .i64 x, .bool b] w _
  have HR := Lib.hid (Below.refl w.heap.size w)
  go_enter Try.func38, Try.ntmps38
  go_wp2_with fail
  go_ret
  exact ⟨by first | rfl | simp, HR.out⟩

set_option maxRecDepth 100000 in
set_option maxHeartbeats 400000 in
theorem cl39_call (x r : Int) (b : Bool) (g : Nat) (w : World) (hg : w.cell? ⟨g, 0, none⟩ = some (.int .i64 r)) : Calls Try.prog 39 (#[.int .i64 x, .bool b] ++ #[.pointer (some ⟨g, 0, none⟩)]) w fun e w' => e = .returned (.bool (b && x == r)) ∧ Below w.heap.size w w' := by
  show Calls Try.prog 39 #[.int .i64 x, .bool b, .pointer (some ⟨g, 0, none⟩)] w _
  have HR := Lib.hid (Below.refl w.heap.size w)
  cases b with
  | true =>
    go_enter Try.func39, Try.ntmps39
    go_wp2_with fail
    go_ret
    exact ⟨by first | rfl | simp, HR.out⟩
  | false =>
    go_enter Try.func39, Try.ntmps39
    go_wp2_with fail
    go_ret
    exact ⟨by first | rfl | simp, HR.out⟩

set_option maxRecDepth 100000 in
set_option maxHeartbeats 1000000 in
theorem some38_any (B : Nat) (d : Dy) (v : Vd) (l : List Sw) (A : Option Addr) (cc : Nat) (t : Int) (p : Nat → Bool) (ca : Array Value) (w : World) (h : DL w B d v) (hs : Row w 0 3 A l.length (sv l)) (hok : Ok d) (hso : SOk d.k.length l)
    (hp : ∀ i, i < d.k.length → ∀ w', Below w.heap.size w w' → Calls Try.prog 38 (#[.int .i64 (((onr d l t i).getD 0 : Nat) : Int), .bool (onr d l t i).isSome] ++ ca) w' fun e w'' => e = .returned (.bool (p i)) ∧ Below w'.heap.size w' w'') :
    Calls Try.prog 37 #[.agg (gd d v), .slice A l.length cc, .int .i64 t, .func (.func 38) #[] ca] w (SmPost p d.k.length w) := by
  have HB0 := Lib.hid (box_below w (.cells (gd d v) 25))
  have R0 := Lib.hid (heap_alloc_new w (.cells (gd d v) 25))
  have hn := hok.n
  have HCK := Lib.hid (check13_any B d v l A cc (w.alloc (.cells (gd d v) 25)) (h.below HB0.out) (hs.below HB0.out) hok hso)
  have HOW := Lib.hid (show ∀ i, i < d.k.length → ∀ w', Below w.heap.size w w' → _ from fun i hi w' hw => owner33_any B d v l A cc i t w' (h.below hw) (hs.below hw) (by omega) hso hi)
  simp only [gd, opV] at HCK HOW
  obtain ⟨g0, g1⟩ := gdCells R0.out
  have HP := Lib.hid hp
  clear h hs hok hso hp
  generalize onr d l t = O at *
  obtain ⟨i0, hi1, hz0, hz1, hz2⟩ := info_parts zinfo3
  have HI := Lib.hid hi1
  have HI0 := Lib.hid hz0
  have HI1 := Lib.hid hz1
  have HI2 := Lib.hid hz2
  clear hi1 hz0 hz1 hz2
  go_enter Try.func37, Try.ntmps37
  go_wp2_with (go_at_call 13; refine HCK.out.mono ?_; rintro e w1 ⟨rfl, hb1⟩; have HB1 := Lib.hid (HB0.out.trans (hb1.mono HB0.out.size)); have R1 := Lib.hid ((hb1.block _ (row_lt R0.out)).trans R0.out); obtain ⟨c0, c1⟩ := gdCells R1.out; clear hb1)
  clear g0 g1 c0 c1
  clear R0
  go_loopw [9, 18] (fun ov ii wr => ∃ k : Nat, k ≤ d.k.length ∧ ii = .int .i64 k ∧ wr.ownsRow (w.heap.size + 1) 3 1 ov (cnt p k) (iv (idx p k)) ∧ wr.heap[w.heap.size]? = some (.cells (gd d v) 25 (0, 0)) ∧ Below w.heap.size w wr) (fun _ ii _ => d.k.length - (intOf ii).toNat)
  case atStart => exact ⟨0, by omega, rfl, own_nil _ _ _ _, R1.out, HB1.out⟩
  case round =>
    obtain ⟨k, hk, rfl, hown, hzr, hbl⟩ := hrel
    have HOWN := Lib.hid hown
    have HBL := Lib.hid hbl
    have HZR := Lib.hid hzr
    obtain ⟨g0, g1⟩ := gdCells hzr
    clear hown hbl hzr
    by_cases hlt : k < d.k.length
    · have hcn := cnt_le p k
      have HC := Lib.hid (HOW.out k hlt wr HBL.out)
      have HQ := Lib.hid (HP.out k hlt)
      generalize ((((O k).getD 0 : Nat) : Int)) = ox at *
      generalize (O k).isSome = ob at *
      have j1 : (k : Int) < (d.k.length : Int) := by omega
      cases hpk : p k with
      | true =>
        have HCN := Lib.hid (show cnt p (k + 1) = cnt p k + 1 by rw [cnt, if_pos hpk])
        have HIX := Lib.hid (show iv (idx p (k + 1)) = iv (idx p k) ++ [.int .i64 (k : Int)] by rw [idx, if_pos hpk, iv_snoc])
        rw [hpk] at HQ
        clear hpk
        go_wp2_with (first
          | (go_at_call 33; refine HC.out.mono ?_; rintro e wa ⟨rfl, hba⟩; have HBa := Lib.hid (HBL.out.trans (hba.mono HBL.out.size)); have HOa := Lib.hid (own_below HOWN.out hba); have HZa := Lib.hid ((hba.block _ (row_lt HZR.out)).trans HZR.out); clear hba)
          | (go_at_call 38; refine (HQ.out _ HBa.out).mono ?_; rintro e w2 ⟨rfl, hb2⟩; have HB2 := Lib.hid (HBa.out.trans (hb2.mono HBa.out.size)); have HO2 := Lib.hid (own_below HOa.out hb2); have HZ2 := Lib.hid ((hb2.block _ (row_lt HZa.out)).trans HZa.out); have hl2 : w.heap.size + 1 ≤ w2.heap.size := row_lt HZ2.out; clear hb2)
          | (at_builtin; refine wpList_append_own _ rfl (.tmp 30) (.tmp 32) 22 rfl (w.heap.size + 1) 3 i0 (.int .i64 0) 1 8 Try.underlying22 HI.out HI0.out HI1.out HI2.out rfl (by decide) _ (cnt p k) (iv (idx p k)) rfl (HO2.out.alloc _) ⟨w2.heap.size, 0, none⟩ 1 1 [.int .i64 (k : Int)] rfl rfl (World.news_of_block (heap_alloc_new w2 _)) (by simp [Value.oneCell']) (by unfold maxLen; omega) (by omega) (by simp; omega) ?_; intro v' w6 hown hgr _; have HOWN6 := Lib.hid hown; have HB6 := Lib.hid (far_below HB2.out HO2.out hgr (by omega)); have HZ6 := Lib.hid ((far_block HO2.out hgr w.heap.size (by omega) (by omega)).trans HZ2.out); clear hown hgr))
        exact ⟨⟨k + 1, by omega, by go_num, by rw [HCN.out, HIX.out]; exact HOWN6.out, HZ6.out, HB6.out⟩, by simp [intOf]; omega⟩
      | false =>
        have HCN := Lib.hid (show cnt p (k + 1) = cnt p k by rw [cnt, if_neg (by rw [hpk]; decide)]; rfl)
        have HIX := Lib.hid (show idx p (k + 1) = idx p k by rw [idx, if_neg (by rw [hpk]; decide)])
        rw [hpk] at HQ
        clear hpk
        go_wp2_with (first
          | (go_at_call 33; refine HC.out.mono ?_; rintro e wa ⟨rfl, hba⟩; have HBa := Lib.hid (HBL.out.trans (hba.mono HBL.out.size)); have HOa := Lib.hid (own_below HOWN.out hba); have HZa := Lib.hid ((hba.block _ (row_lt HZR.out)).trans HZR.out); clear hba)
          | (go_at_call 38; refine (HQ.out _ HBa.out).mono ?_; rintro e w2 ⟨rfl, hb2⟩; have HB2 := Lib.hid (HBa.out.trans (hb2.mono HBa.out.size)); have HO2 := Lib.hid (own_below HOa.out hb2); have HZ2 := Lib.hid ((hb2.block _ (row_lt HZa.out)).trans HZa.out); clear hb2))
        exact ⟨⟨k + 1, by omega, by go_num, by rw [HCN.out, HIX.out]; exact HO2.out, HZ2.out, HB2.out⟩, by simp [intOf]; omega⟩
    · obtain rfl : k = d.k.length := by omega
      obtain ⟨A', c', rfl⟩ := own_form HOWN.out
      go_wp2_with fail
      go_ret
      exact ⟨A', c', by first | rfl | simp, own_base HOWN.out (Nat.le_succ _), HBL.out⟩

set_option maxRecDepth 100000 in
set_option maxHeartbeats 1000000 in
theorem some39_any (B : Nat) (d : Dy) (v : Vd) (l : List Sw) (A : Option Addr) (cc : Nat) (t : Int) (p : Nat → Bool) (ca : Array Value) (w : World) (h : DL w B d v) (hs : Row w 0 3 A l.length (sv l)) (hok : Ok d) (hso : SOk d.k.length l)
    (hp : ∀ i, i < d.k.length → ∀ w', Below w.heap.size w w' → Calls Try.prog 39 (#[.int .i64 (((onr d l t i).getD 0 : Nat) : Int), .bool (onr d l t i).isSome] ++ ca) w' fun e w'' => e = .returned (.bool (p i)) ∧ Below w'.heap.size w' w'') :
    Calls Try.prog 37 #[.agg (gd d v), .slice A l.length cc, .int .i64 t, .func (.func 39) #[] ca] w (SmPost p d.k.length w) := by
  have HB0 := Lib.hid (box_below w (.cells (gd d v) 25))
  have R0 := Lib.hid (heap_alloc_new w (.cells (gd d v) 25))
  have hn := hok.n
  have HCK := Lib.hid (check13_any B d v l A cc (w.alloc (.cells (gd d v) 25)) (h.below HB0.out) (hs.below HB0.out) hok hso)
  have HOW := Lib.hid (show ∀ i, i < d.k.length → ∀ w', Below w.heap.size w w' → _ from fun i hi w' hw => owner33_any B d v l A cc i t w' (h.below hw) (hs.below hw) (by omega) hso hi)
  simp only [gd, opV] at HCK HOW
  obtain ⟨g0, g1⟩ := gdCells R0.out
  have HP := Lib.hid hp
  clear h hs hok hso hp
  generalize onr d l t = O at *
  obtain ⟨i0, hi1, hz0, hz1, hz2⟩ := info_parts zinfo3
  have HI := Lib.hid hi1
  have HI0 := Lib.hid hz0
  have HI1 := Lib.hid hz1
  have HI2 := Lib.hid hz2
  clear hi1 hz0 hz1 hz2
  go_enter Try.func37, Try.ntmps37
  go_wp2_with (go_at_call 13; refine HCK.out.mono ?_; rintro e w1 ⟨rfl, hb1⟩; have HB1 := Lib.hid (HB0.out.trans (hb1.mono HB0.out.size)); have R1 := Lib.hid ((hb1.block _ (row_lt R0.out)).trans R0.out); obtain ⟨c0, c1⟩ := gdCells R1.out; clear hb1)
  clear g0 g1 c0 c1
  clear R0
  go_loopw [9, 18] (fun ov ii wr => ∃ k : Nat, k ≤ d.k.length ∧ ii = .int .i64 k ∧ wr.ownsRow (w.heap.size + 1) 3 1 ov (cnt p k) (iv (idx p k)) ∧ wr.heap[w.heap.size]? = some (.cells (gd d v) 25 (0, 0)) ∧ Below w.heap.size w wr) (fun _ ii _ => d.k.length - (intOf ii).toNat)
  case atStart => exact ⟨0, by omega, rfl, own_nil _ _ _ _, R1.out, HB1.out⟩
  case round =>
    obtain ⟨k, hk, rfl, hown, hzr, hbl⟩ := hrel
    have HOWN := Lib.hid hown
    have HBL := Lib.hid hbl
    have HZR := Lib.hid hzr
    obtain ⟨g0, g1⟩ := gdCells hzr
    clear hown hbl hzr
    by_cases hlt : k < d.k.length
    · have hcn := cnt_le p k
      have HC := Lib.hid (HOW.out k hlt wr HBL.out)
      have HQ := Lib.hid (HP.out k hlt)
      generalize ((((O k).getD 0 : Nat) : Int)) = ox at *
      generalize (O k).isSome = ob at *
      have j1 : (k : Int) < (d.k.length : Int) := by omega
      cases hpk : p k with
      | true =>
        have HCN := Lib.hid (show cnt p (k + 1) = cnt p k + 1 by rw [cnt, if_pos hpk])
        have HIX := Lib.hid (show iv (idx p (k + 1)) = iv (idx p k) ++ [.int .i64 (k : Int)] by rw [idx, if_pos hpk, iv_snoc])
        rw [hpk] at HQ
        clear hpk
        go_wp2_with (first
          | (go_at_call 33; refine HC.out.mono ?_; rintro e wa ⟨rfl, hba⟩; have HBa := Lib.hid (HBL.out.trans (hba.mono HBL.out.size)); have HOa := Lib.hid (own_below HOWN.out hba); have HZa := Lib.hid ((hba.block _ (row_lt HZR.out)).trans HZR.out); clear hba)
          | (go_at_call 39; refine (HQ.out _ HBa.out).mono ?_; rintro e w2 ⟨rfl, hb2⟩; have HB2 := Lib.hid (HBa.out.trans (hb2.mono HBa.out.size)); have HO2 := Lib.hid (own_below HOa.out hb2); have HZ2 := Lib.hid ((hb2.block _ (row_lt HZa.out)).trans HZa.out); have hl2 : w.heap.size + 1 ≤ w2.heap.size := row_lt HZ2.out; clear hb2)
          | (at_builtin; refine wpList_append_own _ rfl (.tmp 30) (.tmp 32) 22 rfl (w.heap.size + 1) 3 i0 (.int .i64 0) 1 8 Try.underlying22 HI.out HI0.out HI1.out HI2.out rfl (by decide) _ (cnt p k) (iv (idx p k)) rfl (HO2.out.alloc _) ⟨w2.heap.size, 0, none⟩ 1 1 [.int .i64 (k : Int)] rfl rfl (World.news_of_block (heap_alloc_new w2 _)) (by simp [Value.oneCell']) (by unfold maxLen; omega) (by omega) (by simp; omega) ?_; intro v' w6 hown hgr _; have HOWN6 := Lib.hid hown; have HB6 := Lib.hid (far_below HB2.out HO2.out hgr (by omega)); have HZ6 := Lib.hid ((far_block HO2.out hgr w.heap.size (by omega) (by omega)).trans HZ2.out); clear hown hgr))
        exact ⟨⟨k + 1, by omega, by go_num, by rw [HCN.out, HIX.out]; exact HOWN6.out, HZ6.out, HB6.out⟩, by simp [intOf]; omega⟩
      | false =>
        have HCN := Lib.hid (show cnt p (k + 1) = cnt p k by rw [cnt, if_neg (by rw [hpk]; decide)]; rfl)
        have HIX := Lib.hid (show idx p (k + 1) = idx p k by rw [idx, if_neg (by rw [hpk]; decide)])
        rw [hpk] at HQ
        clear hpk
        go_wp2_with (first
          | (go_at_call 33; refine HC.out.mono ?_; rintro e wa ⟨rfl, hba⟩; have HBa := Lib.hid (HBL.out.trans (hba.mono HBL.out.size)); have HOa := Lib.hid (own_below HOWN.out hba); have HZa := Lib.hid ((hba.block _ (row_lt HZR.out)).trans HZR.out); clear hba)
          | (go_at_call 39; refine (HQ.out _ HBa.out).mono ?_; rintro e w2 ⟨rfl, hb2⟩; have HB2 := Lib.hid (HBa.out.trans (hb2.mono HBa.out.size)); have HO2 := Lib.hid (own_below HOa.out hb2); have HZ2 := Lib.hid ((hb2.block _ (row_lt HZa.out)).trans HZa.out); clear hb2))
        exact ⟨⟨k + 1, by omega, by go_num, by rw [HCN.out, HIX.out]; exact HO2.out, HZ2.out, HB2.out⟩, by simp [intOf]; omega⟩
    · obtain rfl : k = d.k.length := by omega
      obtain ⟨A', c', rfl⟩ := own_form HOWN.out
      go_wp2_with fail
      go_ret
      exact ⟨A', c', by first | rfl | simp, own_base HOWN.out (Nat.le_succ _), HBL.out⟩

noncomputable def orphB (d : Dy) (l : List Sw) (t : Int) (q : Nat) : Bool := !(onr d l t q).isSome
noncomputable def ownB (d : Dy) (l : List Sw) (t r : Int) (q : Nat) : Bool := (onr d l t q).isSome && (((onr d l t q).getD 0 : Nat) : Int) == r
set_option maxRecDepth 100000 in
set_option maxHeartbeats 1000000 in
theorem orphans_any (B : Nat) (d : Dy) (v : Vd) (l : List Sw) (A : Option Addr) (cc : Nat) (t : Int) (w : World) (h : DL w B d v) (hs : Row w 0 3 A l.length (sv l)) (hok : Ok d) (hso : SOk d.k.length l) :
    Calls Try.prog 22 #[.agg (gd d v), .slice A l.length cc, .int .i64 t] w (SmPost (orphB d l t) d.k.length w) := by
  have HB0 := Lib.hid (box_below w (.cells (gd d v) 25))
  have R0 := Lib.hid (heap_alloc_new w (.cells (gd d v) 25))
  have HSO := Lib.hid (some38_any B d v l A cc t (orphB d l t) #[] (w.alloc (.cells (gd d v) 25)) (h.below HB0.out) (hs.below HB0.out) hok hso (fun i hi w' hw => cl38_call _ _ w'))
  simp only [gd] at HSO
  obtain ⟨g0, g1⟩ := gdCells R0.out
  clear h hs hok hso
  generalize orphB d l t = p at *
  go_enter Try.func22, Try.ntmps22
  go_wp2_with fail
  refine HSO.out.mono ?_
  rintro e w1 ⟨A1, c1, rfl, hown, hb1⟩
  have HO1 := Lib.hid (own_base hown (show w.heap.size ≤ _ from HB0.out.size))
  have HB1 := Lib.hid (HB0.out.trans (hb1.mono HB0.out.size))
  clear hown hb1
  go_wp2_with fail
  go_ret
  exact ⟨A1, c1, rfl, HO1.out, HB1.out⟩

set_option maxRecDepth 100000 in
set_option maxHeartbeats 1000000 in
theorem owned_any (B : Nat) (d : Dy) (v : Vd) (l : List Sw) (A : Option Addr) (cc : Nat) (r t : Int) (w : World) (h : DL w B d v) (hs : Row w 0 3 A l.length (sv l)) (hok : Ok d) (hso : SOk d.k.length l) :
    Calls Try.prog 24 #[.agg (gd d v), .slice A l.length cc, .int .i64 r, .int .i64 t] w (SmPost (ownB d l t r) d.k.length w) := by
  have hb := (box_below w (.cells (gd d v) 25)).trans ((box_below (w.alloc (.cells (gd d v) 25)) (.cells #[.int .i64 r] 3)).mono (by simp))
  have HB := Lib.hid hb
  have a1 := heap_alloc2_old w (.cells (gd d v) 25) (.cells #[.int .i64 r] 3)
  have a2 := heap_alloc2_new w (.cells (gd d v) 25) (.cells #[.int .i64 r] 3)
  have A2 := Lib.hid a2
  have HSO := Lib.hid (some39_any B d v l A cc t (ownB d l t r) #[.pointer (some ⟨w.heap.size + 1, 0, none⟩)] _ (h.below HB.out) (hs.below HB.out) hok hso (fun i hi w' hw => cl39_call _ r _ (w.heap.size + 1) w' (by rw [cell_of_row _ _ _ _ _ _ ((hw.block _ (row_lt A2.out)).trans A2.out)]; rfl)))
  simp only [gd] at HSO
  obtain ⟨g0, g1⟩ := gdCells a1
  clear h hs hok hso hb a1 a2
  generalize ownB d l t r = p at *
  go_enter Try.func24, Try.ntmps24
  go_wp2_with fail
  refine HSO.out.mono ?_
  rintro e w1 ⟨A1, c1, rfl, hown, hb1⟩
  have HO1 := Lib.hid (own_base hown (show w.heap.size ≤ _ from HB.out.size))
  have HB1 := Lib.hid (HB.out.trans (hb1.mono HB.out.size))
  clear hown hb1
  go_wp2_with fail
  go_ret
  exact ⟨A1, c1, rfl, HO1.out, HB1.out⟩

end Go.Proofs.Ytlmpbfijgnkpkaa.Di
