import Derived.Test.YtablgpcgfogfoaaRgA
namespace Go.Proofs.Ytablgpcgfogfoaa.Rg
open Go.RowKit
open Go.Proofs.Ytablgpcgfogfoaa.Tp
set_option linter.unusedVariables false

def SmPost (p : Nat → Bool) (n : Nat) (w : World) (e : Ending) (w' : World) : Prop := ∃ A cc, e = .returned (.slice A (cnt p n) cc) ∧ Row w' w.heap.size 1 A (cnt p n) (iv (idx p n)) ∧ Below w.heap.size w w'

set_option maxRecDepth 100000 in
set_option maxHeartbeats 1000000 in
theorem hit_some (gi gh gt : Nat) (B : Nat) (nm : ByteArray) (r : Rg) (v : Vr) (p : Nat → Bool) (w : World) (h : RL w B nm r v) (hn : r.c.length ≤ 100)
    (hp : ∀ i, i < r.c.length → ∀ w', Below w.heap.size w w' → Calls Try.prog 52 (#[.agg #[.int .i64 (((cg r i).i : Nat) : Int), .int .u64 (((cg r i).p : Nat) : Int), .int .i64 (((cg r i).h : Nat) : Int), .int .i64 (((cg r i).f : Nat) : Int), .int .i64 (((cg r i).u : Nat) : Int)]] ++ #[.pointer (some ⟨gi, 0, none⟩), .pointer (some ⟨gh, 0, none⟩), .pointer (some ⟨gt, 0, none⟩)]) w' fun e w'' => e = .returned (.bool (p i)) ∧ Below w'.heap.size w' w'') :
    Calls Try.prog 47 #[.agg (gv r v), .func (.func 52) #[] #[.pointer (some ⟨gi, 0, none⟩), .pointer (some ⟨gh, 0, none⟩), .pointer (some ⟨gt, 0, none⟩)]] w (SmPost p r.c.length w) := by
  have HB0 := Lib.hid (box_below w (.cells (gv r v) 26))
  have HL0 := Lib.hid (h.r2.base (Nat.zero_le _))
  obtain ⟨g0, g1⟩ := gvCells (heap_alloc_new w (.cells (gv r v) 26))
  have HP := Lib.hid hp
  clear h hp
  obtain ⟨i0, hi1, hz0, hz1, hz2⟩ := info_parts zinfo3
  have HI := Lib.hid hi1
  have HI0 := Lib.hid hz0
  have HI1 := Lib.hid hz1
  have HI2 := Lib.hid hz2
  clear hi1 hz0 hz1 hz2
  go_enter Try.func47, Try.ntmps47
  go_wp2_with fail
  clear g0 g1
  have l0 := HB0.out.size
  simp at l0
  have hz : w.heap.size < (w.alloc (.cells (gv r v) 26)).heap.size := by simp
  generalize w.alloc (.cells (gv r v) 26) = W0 at *
  go_loopw [5, 11] (fun ov ii wr => ∃ k : Nat, k ≤ r.c.length ∧ ii = .int .i64 k ∧ wr.ownsRow (w.heap.size + 1) 3 1 ov (cnt p k) (iv (idx p k)) ∧ Below w.heap.size w wr) (fun _ ii _ => r.c.length - (intOf ii).toNat)
  case atStart => exact ⟨0, by omega, rfl, own_nil _ _ _ _, HB0.out⟩
  case round =>
    obtain ⟨k, hk, rfl, hown, hbl⟩ := hrel
    have HOWN := Lib.hid hown
    have HBL := Lib.hid hbl
    have HROW := Lib.hid (HL0.out.below hbl)
    clear hown hbl
    by_cases hlt : k < r.c.length
    · have hcn := cnt_le p k
      obtain ⟨b, off, hA, -, hbk, y0, y1, y2, y3, y4⟩ := HROW.out.crd hlt
      have HC := Lib.hid (HP.out k hlt)
      have hK : r.c.getD k c0 = cg r k := rfl
      rw [hK] at y0 y1 y2 y3 y4
      clear hK
      generalize cg r k = x at *
      have j0 : (0 : Int) ≤ (k : Int) := by omega
      have j1 : (k : Int) < (r.c.length : Int) := by omega
      have hBW := box_below wr (.cells #[.int .i64 (x.i : Int), .int .u64 (x.p : Int), .int .i64 (x.h : Int), .int .i64 (x.f : Int), .int .i64 (x.u : Int)] 29)
      have HB1 := Lib.hid (HBL.out.trans (hBW.mono HBL.out.size))
      have HO1 := Lib.hid (own_below HOWN.out hBW)
      rw [hA]
      clear hBW hA
      cases hpk : p k with
      | true =>
        have HCN := Lib.hid (show cnt p (k + 1) = cnt p k + 1 by rw [cnt, if_pos hpk])
        have HIX := Lib.hid (show iv (idx p (k + 1)) = iv (idx p k) ++ [.int .i64 (k : Int)] by rw [idx, if_pos hpk, iv_snoc])
        rw [hpk] at HC
        clear hpk
        go_wp2_with (first
          | (go_at_call 52; refine (HC.out _ HB1.out).mono ?_; rintro e w2 ⟨rfl, hb2⟩; have HB2 := Lib.hid (HB1.out.trans (hb2.mono HB1.out.size)); have HO2 := Lib.hid (own_below HO1.out hb2); have hl2 : w.heap.size + 1 ≤ w2.heap.size := (by have := hb2.size; simp at this; have := HBL.out.size; omega); clear hb2)
          | (at_builtin; refine wpList_append_own _ rfl (.tmp 19) (.tmp 21) 22 rfl (w.heap.size + 1) 3 i0 (.int .i64 0) 1 8 Try.underlying22 HI.out HI0.out HI1.out HI2.out rfl (by decide) _ (cnt p k) (iv (idx p k)) rfl (HO2.out.alloc _) ⟨w2.heap.size, 0, none⟩ 1 1 [.int .i64 (k : Int)] rfl rfl (World.news_of_block (heap_alloc_new w2 _)) (by simp [Value.oneCell']) (by unfold maxLen; omega) (by omega) (by simp; omega) ?_; intro v' w6 hown hgr _; have HOWN6 := Lib.hid hown; have HB6 := Lib.hid (far_below HB2.out HO2.out hgr (by omega)); clear hown hgr))
        exact ⟨⟨k + 1, by omega, by go_num, by rw [HCN.out, HIX.out]; exact HOWN6.out, HB6.out⟩, by simp [intOf]; omega⟩
      | false =>
        have HCN := Lib.hid (show cnt p (k + 1) = cnt p k by rw [cnt, if_neg (by rw [hpk]; decide)]; rfl)
        have HIX := Lib.hid (show idx p (k + 1) = idx p k by rw [idx, if_neg (by rw [hpk]; decide)])
        rw [hpk] at HC
        clear hpk
        go_wp2_with (go_at_call 52; refine (HC.out _ HB1.out).mono ?_; rintro e w2 ⟨rfl, hb2⟩; have HB2 := Lib.hid (HB1.out.trans (hb2.mono HB1.out.size)); have HO2 := Lib.hid (own_below HO1.out hb2); clear hb2)
        exact ⟨⟨k + 1, by omega, by go_num, by rw [HCN.out, HIX.out]; exact HO2.out, HB2.out⟩, by simp [intOf]; omega⟩
    · obtain rfl : k = r.c.length := by omega
      obtain ⟨A, cc, rfl⟩ := own_form HOWN.out
      go_wp2_with fail
      go_ret
      exact ⟨A, cc, rfl, (row_of_own HOWN.out).base (Nat.le_succ _), HBL.out⟩

set_option maxRecDepth 100000 in
set_option maxHeartbeats 1000000 in
theorem fp_some (gf : Nat) (B : Nat) (nm : ByteArray) (r : Rg) (v : Vr) (p : Nat → Bool) (w : World) (h : RL w B nm r v) (hn : r.c.length ≤ 100)
    (hp : ∀ i, i < r.c.length → ∀ w', Below w.heap.size w w' → Calls Try.prog 48 (#[.agg #[.int .i64 (((cg r i).i : Nat) : Int), .int .u64 (((cg r i).p : Nat) : Int), .int .i64 (((cg r i).h : Nat) : Int), .int .i64 (((cg r i).f : Nat) : Int), .int .i64 (((cg r i).u : Nat) : Int)]] ++ #[.pointer (some ⟨gf, 0, none⟩)]) w' fun e w'' => e = .returned (.bool (p i)) ∧ Below w'.heap.size w' w'') :
    Calls Try.prog 47 #[.agg (gv r v), .func (.func 48) #[] #[.pointer (some ⟨gf, 0, none⟩)]] w (SmPost p r.c.length w) := by
  have HB0 := Lib.hid (box_below w (.cells (gv r v) 26))
  have HL0 := Lib.hid (h.r2.base (Nat.zero_le _))
  obtain ⟨g0, g1⟩ := gvCells (heap_alloc_new w (.cells (gv r v) 26))
  have HP := Lib.hid hp
  clear h hp
  obtain ⟨i0, hi1, hz0, hz1, hz2⟩ := info_parts zinfo3
  have HI := Lib.hid hi1
  have HI0 := Lib.hid hz0
  have HI1 := Lib.hid hz1
  have HI2 := Lib.hid hz2
  clear hi1 hz0 hz1 hz2
  go_enter Try.func47, Try.ntmps47
  go_wp2_with fail
  clear g0 g1
  have l0 := HB0.out.size
  simp at l0
  have hz : w.heap.size < (w.alloc (.cells (gv r v) 26)).heap.size := by simp
  generalize w.alloc (.cells (gv r v) 26) = W0 at *
  go_loopw [5, 11] (fun ov ii wr => ∃ k : Nat, k ≤ r.c.length ∧ ii = .int .i64 k ∧ wr.ownsRow (w.heap.size + 1) 3 1 ov (cnt p k) (iv (idx p k)) ∧ Below w.heap.size w wr) (fun _ ii _ => r.c.length - (intOf ii).toNat)
  case atStart => exact ⟨0, by omega, rfl, own_nil _ _ _ _, HB0.out⟩
  case round =>
    obtain ⟨k, hk, rfl, hown, hbl⟩ := hrel
    have HOWN := Lib.hid hown
    have HBL := Lib.hid hbl
    have HROW := Lib.hid (HL0.out.below hbl)
    clear hown hbl
    by_cases hlt : k < r.c.length
    · have hcn := cnt_le p k
      obtain ⟨b, off, hA, -, hbk, y0, y1, y2, y3, y4⟩ := HROW.out.crd hlt
      have HC := Lib.hid (HP.out k hlt)
      have hK : r.c.getD k c0 = cg r k := rfl
      rw [hK] at y0 y1 y2 y3 y4
      clear hK
      generalize cg r k = x at *
      have j0 : (0 : Int) ≤ (k : Int) := by omega
      have j1 : (k : Int) < (r.c.length : Int) := by omega
      have hBW := box_below wr (.cells #[.int .i64 (x.i : Int), .int .u64 (x.p : Int), .int .i64 (x.h : Int), .int .i64 (x.f : Int), .int .i64 (x.u : Int)] 29)
      have HB1 := Lib.hid (HBL.out.trans (hBW.mono HBL.out.size))
      have HO1 := Lib.hid (own_below HOWN.out hBW)
      rw [hA]
      clear hBW hA
      cases hpk : p k with
      | true =>
        have HCN := Lib.hid (show cnt p (k + 1) = cnt p k + 1 by rw [cnt, if_pos hpk])
        have HIX := Lib.hid (show iv (idx p (k + 1)) = iv (idx p k) ++ [.int .i64 (k : Int)] by rw [idx, if_pos hpk, iv_snoc])
        rw [hpk] at HC
        clear hpk
        go_wp2_with (first
          | (go_at_call 48; refine (HC.out _ HB1.out).mono ?_; rintro e w2 ⟨rfl, hb2⟩; have HB2 := Lib.hid (HB1.out.trans (hb2.mono HB1.out.size)); have HO2 := Lib.hid (own_below HO1.out hb2); have hl2 : w.heap.size + 1 ≤ w2.heap.size := (by have := hb2.size; simp at this; have := HBL.out.size; omega); clear hb2)
          | (at_builtin; refine wpList_append_own _ rfl (.tmp 19) (.tmp 21) 22 rfl (w.heap.size + 1) 3 i0 (.int .i64 0) 1 8 Try.underlying22 HI.out HI0.out HI1.out HI2.out rfl (by decide) _ (cnt p k) (iv (idx p k)) rfl (HO2.out.alloc _) ⟨w2.heap.size, 0, none⟩ 1 1 [.int .i64 (k : Int)] rfl rfl (World.news_of_block (heap_alloc_new w2 _)) (by simp [Value.oneCell']) (by unfold maxLen; omega) (by omega) (by simp; omega) ?_; intro v' w6 hown hgr _; have HOWN6 := Lib.hid hown; have HB6 := Lib.hid (far_below HB2.out HO2.out hgr (by omega)); clear hown hgr))
        exact ⟨⟨k + 1, by omega, by go_num, by rw [HCN.out, HIX.out]; exact HOWN6.out, HB6.out⟩, by simp [intOf]; omega⟩
      | false =>
        have HCN := Lib.hid (show cnt p (k + 1) = cnt p k by rw [cnt, if_neg (by rw [hpk]; decide)]; rfl)
        have HIX := Lib.hid (show idx p (k + 1) = idx p k by rw [idx, if_neg (by rw [hpk]; decide)])
        rw [hpk] at HC
        clear hpk
        go_wp2_with (go_at_call 48; refine (HC.out _ HB1.out).mono ?_; rintro e w2 ⟨rfl, hb2⟩; have HB2 := Lib.hid (HB1.out.trans (hb2.mono HB1.out.size)); have HO2 := Lib.hid (own_below HO1.out hb2); clear hb2)
        exact ⟨⟨k + 1, by omega, by go_num, by rw [HCN.out, HIX.out]; exact HO2.out, HB2.out⟩, by simp [intOf]; omega⟩
    · obtain rfl : k = r.c.length := by omega
      obtain ⟨A, cc, rfl⟩ := own_form HOWN.out
      go_wp2_with fail
      go_ret
      exact ⟨A, cc, rfl, (row_of_own HOWN.out).base (Nat.le_succ _), HBL.out⟩

end Go.Proofs.Ytablgpcgfogfoaa.Rg
