import Derived.Test.YtablgpcgfogfoaaRgC
namespace Go.Proofs.Ytablgpcgfogfoaa.Rg
open Go.RowKit
open Go.Proofs.Ytablgpcgfogfoaa.Tp
set_option linter.unusedVariables false

theorem in_yes (x lo hi : Int) (w : World) (h1 : lo ≤ x) (h2 : x ≤ hi) : Calls Try.prog 44 #[.int .i64 x, .int .i64 lo, .int .i64 hi] w fun e w' => e = .returned (.bool true) ∧ w = w' := by
  have d1 : decide (lo ≤ x) = true := decide_eq_true h1
  have d2 : decide (x ≤ hi) = true := decide_eq_true h2
  go_enter Try.func44, Try.ntmps44
  go_wp2
  go_ret
  exact ⟨by first | rfl | simp, rfl⟩

set_option maxRecDepth 100000 in
set_option maxHeartbeats 1000000 in
theorem name_any (nm : ByteArray) (w : World) (h : Nm nm) : Calls Try.prog 53 #[.string nm] w fun e w' => e = .returned (.bool true) ∧ Below w.heap.size w w' := by
  rcases h with rfl | rfl
  · go_enter Try.func53, Try.ntmps53
    go_wp2_with (go_at_call 44; refine (in_yes 1 1 40 _ (by omega) (by omega)).mono ?_; rintro e w' ⟨rfl, rfl⟩)
    go_loopw [3] (fun ii w' => ∃ k : Nat, k ≤ 1 ∧ ii = .int .i64 k ∧ w' = w) (fun ii _ => 1 - (intOf ii).toNat)
    case atStart => exact ⟨0, by omega, rfl, rfl⟩
    case round =>
      obtain ⟨k, hk, rfl, rfl⟩ := hrel
      rcases (by omega : k = 0 ∨ k = 1) with rfl | rfl
      · go_wp2
        exact ⟨⟨1, by omega, by first | rfl | trivial, by first | rfl | trivial⟩, by simp [intOf]⟩
      · go_wp2
        go_ret
        exact ⟨rfl, Below.refl _ _⟩
  · go_enter Try.func53, Try.ntmps53
    go_wp2_with (go_at_call 44; refine (in_yes 6 1 40 _ (by omega) (by omega)).mono ?_; rintro e w' ⟨rfl, rfl⟩)
    go_loopw [3] (fun ii w' => ∃ k : Nat, k ≤ 6 ∧ ii = .int .i64 k ∧ w' = w) (fun ii _ => 6 - (intOf ii).toNat)
    case atStart => exact ⟨0, by omega, rfl, rfl⟩
    case round =>
      obtain ⟨k, hk, rfl, rfl⟩ := hrel
      rcases (by omega : k = 0 ∨ k = 1 ∨ k = 2 ∨ k = 3 ∨ k = 4 ∨ k = 5 ∨ k = 6) with rfl | rfl | rfl | rfl | rfl | rfl | rfl
      · go_wp2
        exact ⟨⟨1, by omega, by first | rfl | trivial, by first | rfl | trivial⟩, by simp [intOf]⟩
      · go_wp2
        exact ⟨⟨2, by omega, by first | rfl | trivial, by first | rfl | trivial⟩, by simp [intOf]⟩
      · go_wp2
        exact ⟨⟨3, by omega, by first | rfl | trivial, by first | rfl | trivial⟩, by simp [intOf]⟩
      · go_wp2
        exact ⟨⟨4, by omega, by first | rfl | trivial, by first | rfl | trivial⟩, by simp [intOf]⟩
      · go_wp2
        exact ⟨⟨5, by omega, by first | rfl | trivial, by first | rfl | trivial⟩, by simp [intOf]⟩
      · go_wp2
        exact ⟨⟨6, by omega, by first | rfl | trivial, by first | rfl | trivial⟩, by simp [intOf]⟩
      · go_wp2
        go_ret
        exact ⟨rfl, Below.refl _ _⟩

set_option maxRecDepth 100000 in
set_option maxHeartbeats 1000000 in
theorem fields_any (r : Rg) (v : Vr) (x : Cr) (w : World) (hx : Cw r x) (hr : r.s.length ≤ 8) :
    Calls Try.prog 54 #[.agg (gv r v), .agg (kc x)] w fun e w' => e = .returned (.bool true) ∧ Below w.heap.size w w' := by
  have hbz := (box_below w (.cells (gv r v) 26)).trans ((box_below (w.alloc (.cells (gv r v) 26)) (.cells (kc x) 29)).mono (by simp))
  have HBZ := Lib.hid hbz
  obtain ⟨g0, g1⟩ := gvCells (heap_alloc2_old w (.cells (gv r v) 26) (.cells (kc x) 29))
  obtain ⟨y0, y1, y2, y3, y4⟩ := kcCells (heap_alloc2_new w (.cells (gv r v) 26) (.cells (kc x) 29))
  obtain ⟨i1, i2, i3, i4, i5⟩ := hx
  have d1 : (0 : Int) ≤ (x.f : Int) := by omega
  have d2 : (x.f : Int) < (x.u : Int) := by omega
  have d3 : (x.u : Int) ≤ 1099511627777 := by omega
  clear hbz
  go_enter Try.func54, Try.ntmps54
  go_wp2_with (first
    | (go_at_call 44; (with_reducible refine (in_yes (x.i : Int) 0 ((r.s.length : Int) - 1) _ (by omega) (by omega)).mono ?_); rintro e w2 ⟨rfl, rfl⟩)
    | (go_at_call 44; (with_reducible refine (in_yes (x.h : Int) 0 23 _ (by omega) (by omega)).mono ?_); rintro e w2 ⟨rfl, rfl⟩))
  go_ret
  exact ⟨by first | rfl | simp, HBZ.out⟩

set_option maxRecDepth 100000 in
set_option maxHeartbeats 2000000 in
theorem refheld_any (B : Nat) (nm : ByteArray) (r : Rg) (v : Vr) (i h t : Nat) (w : World) (hr : RL w B nm r v) (hn : r.c.length ≤ 100) :
    Calls Try.prog 46 #[.agg (gv r v), .int .i64 (i : Int), .int .i64 (h : Int), .int .i64 (t : Int)] w (HdPost r i h t w) := by
  have HB0 := Lib.hid (box_below w (.cells (gv r v) 26))
  have HL0 := Lib.hid (hr.r2.base (Nat.zero_le _))
  obtain ⟨g0, g1⟩ := gvCells (heap_alloc_new w (.cells (gv r v) 26))
  clear hr
  obtain ⟨i0, hi1, hz0, hz1, hz2⟩ := info_parts zinfo3
  have HI := Lib.hid hi1
  have HI0 := Lib.hid hz0
  have HI1 := Lib.hid hz1
  have HI2 := Lib.hid hz2
  clear hi1 hz0 hz1 hz2
  go_enter Try.func46, Try.ntmps46
  go_wp2_with fail
  clear g0 g1
  have l0 := HB0.out.size
  simp at l0
  have hz : w.heap.size < (w.alloc (.cells (gv r v) 26)).heap.size := by simp
  generalize w.alloc (.cells (gv r v) 26) = W0 at *
  have hH : held r i h t = idx (fun j => hit (cg r j) i h t) r.c.length := rfl
  have hN : hc r i h t = cnt (fun j => hit (cg r j) i h t) r.c.length := rfl
  have HH := Lib.hid hH
  have HN := Lib.hid hN
  clear hH hN
  generalize hp : (fun j => hit (cg r j) i h t) = p at *
  have HPE := Lib.hid (fun j => show p j = hit (cg r j) i h t by rw [← hp])
  clear hp
  go_loopw [9, 15] (fun ov ii wr => ∃ k : Nat, k ≤ r.c.length ∧ ii = .int .i64 k ∧ wr.ownsRow (w.heap.size + 1) 3 1 ov (cnt p k) (iv (idx p k)) ∧ Below w.heap.size w wr) (fun _ ii _ => r.c.length - (intOf ii).toNat)
  case atStart => exact ⟨0, by omega, rfl, own_nil _ _ _ _, HB0.out⟩
  case round =>
    obtain ⟨k, hk, rfl, hown, hbl⟩ := hrel
    have HOWN := Lib.hid hown
    have HBL := Lib.hid hbl
    have HROW := Lib.hid (HL0.out.below hbl)
    clear hown hbl
    by_cases hlt : k < r.c.length
    · have hcn := cnt_le p k
      obtain ⟨b, off, hA, -, hbk, y0, y1, y2, y3, y4⟩ := HROW.out.crd hlt
      have hK : r.c.getD k c0 = cg r k := rfl
      rw [hK] at y0 y1 y2 y3 y4
      have hpk := HPE.out k
      clear hK
      generalize cg r k = x at *
      have j0 : (0 : Int) ≤ (k : Int) := by omega
      have j1 : (k : Int) < (r.c.length : Int) := by omega
      have hBW := box_below wr (.cells #[.int .i64 (x.i : Int), .int .u64 (x.p : Int), .int .i64 (x.h : Int), .int .i64 (x.f : Int), .int .i64 (x.u : Int)] 29)
      have HB2 := Lib.hid (HBL.out.trans (hBW.mono HBL.out.size))
      have HO2 := Lib.hid (own_below HOWN.out hBW)
      have hl2 := HBL.out.size
      rw [hA]
      clear hBW hA
      cases hhit : hit x i h t with
      | true =>
        rw [hhit] at hpk
        obtain ⟨a1, a2, a3, a4⟩ := (hit_iff _ _ _ _).1 hhit
        have HCN := Lib.hid (show cnt p (k + 1) = cnt p k + 1 by rw [cnt, if_pos hpk])
        have HIX := Lib.hid (show iv (idx p (k + 1)) = iv (idx p k) ++ [.int .i64 (k : Int)] by rw [idx, if_pos hpk, iv_snoc])
        have e1 : ((x.i : Int) == (i : Int)) = true := by rw [a1]; simp
        have e2 : ((x.h : Int) == (h : Int)) = true := by rw [a2]; simp
        have e3 : (x.f : Int) ≤ (t : Int) := by omega
        have e4 : (t : Int) < (x.u : Int) := by omega
        have NEWS := Lib.hid (World.news_of_block (B := wr.heap.size + 1) (heap_alloc2_new wr (.cells #[.int .i64 (x.i : Int), .int .u64 (x.p : Int), .int .i64 (x.h : Int), .int .i64 (x.f : Int), .int .i64 (x.u : Int)] 29) (.cells #[.int .i64 (k : Int)] 3)))
        clear hhit hpk a1 a2 a3 a4
        go_wp2_with (at_builtin; refine wpList_append_own _ rfl (.tmp 42) (.tmp 44) 22 rfl (w.heap.size + 1) 3 i0 (.int .i64 0) 1 8 Try.underlying22 HI.out HI0.out HI1.out HI2.out rfl (by decide) _ (cnt p k) (iv (idx p k)) rfl (HO2.out.alloc _) ⟨wr.heap.size + 1, 0, none⟩ 1 1 [.int .i64 (k : Int)] rfl rfl NEWS.out (by simp [Value.oneCell']) (by unfold maxLen; omega) (by omega) (by first | (simp; omega) | simp) ?_; intro v' w6 hown hgr _; have HOWN6 := Lib.hid hown; have HB6 := Lib.hid (far_below HB2.out HO2.out hgr (by omega)); clear hown hgr)
        exact ⟨⟨k + 1, by omega, by go_num, by rw [HCN.out, HIX.out]; exact HOWN6.out, HB6.out⟩, by simp [intOf]; omega⟩
      | false =>
        rw [hhit] at hpk
        have HCN := Lib.hid (show cnt p (k + 1) = cnt p k by rw [cnt, if_neg (by rw [hpk]; decide)]; rfl)
        have HIX := Lib.hid (show idx p (k + 1) = idx p k by rw [idx, if_neg (by rw [hpk]; decide)])
        have hno : ¬ (x.i = i ∧ x.h = h ∧ x.f ≤ t ∧ t < x.u) := fun hh => by
          rw [(hit_iff x i h t).2 hh] at hhit
          cases hhit
        clear hhit hpk
        by_cases a1 : x.i = i
        · have e1 : ((x.i : Int) == (i : Int)) = true := by rw [a1]; simp
          by_cases a2 : x.h = h
          · have e2 : ((x.h : Int) == (h : Int)) = true := by rw [a2]; simp
            by_cases a3 : x.f ≤ t
            · have e3 : decide ((x.f : Int) ≤ (t : Int)) = true := decide_eq_true (by omega)
              have h4 : ¬ t < x.u := fun h4 => hno ⟨a1, a2, a3, h4⟩
              have e4 : decide ((t : Int) < (x.u : Int)) = false := decide_eq_false (by omega)
              clear a1 a2 hno
              go_wp2_with fail
              exact ⟨⟨k + 1, by omega, by go_num, by rw [HCN.out, HIX.out]; exact HO2.out, HB2.out⟩, by simp [intOf]; omega⟩
            · have e3 : decide ((x.f : Int) ≤ (t : Int)) = false := decide_eq_false (by omega)
              clear a1 a2 hno
              go_wp2_with fail
              exact ⟨⟨k + 1, by omega, by go_num, by rw [HCN.out, HIX.out]; exact HO2.out, HB2.out⟩, by simp [intOf]; omega⟩
          · have e2 : ((x.h : Int) == (h : Int)) = false := beq_eq_false_iff_ne.2 (by omega)
            clear a1 hno
            go_wp2_with fail
            exact ⟨⟨k + 1, by omega, by go_num, by rw [HCN.out, HIX.out]; exact HO2.out, HB2.out⟩, by simp [intOf]; omega⟩
        · have e1 : ((x.i : Int) == (i : Int)) = false := beq_eq_false_iff_ne.2 (by omega)
          clear hno
          go_wp2_with fail
          exact ⟨⟨k + 1, by omega, by go_num, by rw [HCN.out, HIX.out]; exact HO2.out, HB2.out⟩, by simp [intOf]; omega⟩
    · obtain rfl : k = r.c.length := by omega
      obtain ⟨A, cc, rfl⟩ := own_form HOWN.out
      go_wp2_with fail
      go_ret
      exact ⟨A, cc, by rw [HN.out]; rfl, by rw [HH.out, HN.out]; exact (row_of_own HOWN.out).base (Nat.le_succ _), HBL.out⟩

end Go.Proofs.Ytablgpcgfogfoaa.Rg
