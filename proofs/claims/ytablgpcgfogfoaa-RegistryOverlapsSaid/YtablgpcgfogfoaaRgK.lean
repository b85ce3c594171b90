import Derived.Test.YtablgpcgfogfoaaRgI
namespace Go.Proofs.Ytablgpcgfogfoaa.Rg
open Go.RowKit
open Go.Proofs.Ytablgpcgfogfoaa.Tp
set_option linter.unusedVariables false

/-- What is asked of a registry by the product's functions. -/
structure Gd (w : World) (B : Nat) (nm : ByteArray) (r : Rg) (v : Vr) : Prop where
  l : RL w B nm r v
  n : Nm nm
  f : Wf r
  c : crowd r = false
theorem Gd.below {w w' : World} {B : Nat} {nm : ByteArray} {r : Rg} {v : Vr} (h : Gd w B nm r v) (hb : Below w.heap.size w w') : Gd w' B nm r v := ⟨h.l.below hb, h.n, h.f, h.c⟩

theorem check_ok {B : Nat} {nm : ByteArray} {r : Rg} {v : Vr} {w : World} (h : Gd w B nm r v) : Calls Try.prog 14 #[.agg #[.slice v.A1 r.s.length v.c1, .slice v.A2 r.c.length v.c2]] w fun e w' => e = .returned (.int .i64 0) ∧ Below w.heap.size w w' := by
  have := check_any B nm r v w h.l h.n h.f
  rw [h.c] at this
  exact this

set_option maxRecDepth 100000 in
set_option maxHeartbeats 1000000 in
theorem valid_any (B : Nat) (nm : ByteArray) (r : Rg) (v : Vr) (k t : Nat) (w : World) (h : Gd w B nm r v) (hk : k < r.c.length) :
    Calls Try.prog 18 #[.agg (gv r v), .int .i64 (k : Int), .int .i64 (t : Int)] w fun e w' => e = .returned (.bool (val (cg r k) t)) ∧ Below w.heap.size w w' := by
  have HB0 := Lib.hid (box_below w (.cells (gv r v) 26))
  have R0 := Lib.hid (heap_alloc_new w (.cells (gv r v) 26))
  have HCK := Lib.hid (fun w' (hw : Below w.heap.size w w') => check_ok (h.below hw))
  have HRL := Lib.hid h.l
  have n2 := h.f.n2
  have HV := Lib.hid (fun w' => isvalid_any (cg r k) t w')
  clear h
  obtain ⟨g0, g1⟩ := gvCells R0.out
  go_enter Try.func18, Try.ntmps18
  go_wp2_with fail
  refine (HCK.out _ HB0.out).mono ?_
  rintro e w1 ⟨rfl, hb1⟩
  have R1 := Lib.hid ((hb1.block _ (row_lt R0.out)).trans R0.out)
  have HB1 := Lib.hid (HB0.out.trans (hb1.mono HB0.out.size))
  clear hb1 g0 g1
  obtain ⟨g0, g1⟩ := gvCells R1.out
  obtain ⟨b, off, hA, -, hbk, y0, y1, y2, y3, y4⟩ := (HRL.out.below HB1.out).r2.crd hk
  have hK : r.c.getD k c0 = cg r k := rfl
  rw [hK] at y0 y1 y2 y3 y4
  clear hK
  generalize hv : val (cg r k) t = ans at *
  have HVE := Lib.hid hv
  simp only [kc] at HV
  generalize hxx : cg r k = x at *
  have HXX := Lib.hid hxx
  clear hxx
  rw [hA] at g1
  have j0 : (0 : Int) ≤ (k : Int) := by omega
  have j1 : (k : Int) < (r.c.length : Int) := by omega
  clear hA hv
  go_wp2_with (first
    | (go_at_call 43; (with_reducible refine (num_yes k r.c.length _ hk (by omega)).mono ?_); rintro e w2 ⟨rfl, rfl⟩)
    | (go_at_call 45; (with_reducible refine (HV.out _).mono ?_); rintro e w2 ⟨rfl, hb2⟩; have HB2 := Lib.hid (HB1.out.trans (hb2.mono HB1.out.size)); clear hb2))
  go_ret
  exact ⟨by rw [HXX.out, HVE.out]; first | rfl | simp, HB2.out⟩

set_option maxRecDepth 100000 in
set_option maxHeartbeats 1000000 in
theorem Held_any (B : Nat) (nm : ByteArray) (r : Rg) (v : Vr) (i h t : Nat) (w : World) (hg : Gd w B nm r v) :
    Calls Try.prog 21 #[.agg (gv r v), .int .i64 (i : Int), .int .i64 (h : Int), .int .i64 (t : Int)] w (HdPost r i h t w) := by
  have HB0 := Lib.hid (box_below w (.cells (gv r v) 26))
  have R0 := Lib.hid (heap_alloc_new w (.cells (gv r v) 26))
  have HCK := Lib.hid (fun w' (hw : Below w.heap.size w w') => check_ok (hg.below hw))
  have n2 := hg.f.n2
  have HHD := Lib.hid (fun w' (hw : Below w.heap.size w w') => held_any B nm r v i h t w' (hg.l.below hw) (by omega))
  simp only [gv] at HHD
  unfold HdPost at HHD
  clear hg
  obtain ⟨g0, g1⟩ := gvCells R0.out
  go_enter Try.func21, Try.ntmps21
  go_wp2_with fail
  refine (HCK.out _ HB0.out).mono ?_
  rintro e w1 ⟨rfl, hb1⟩
  have R1 := Lib.hid ((hb1.block _ (row_lt R0.out)).trans R0.out)
  have HB1 := Lib.hid (HB0.out.trans (hb1.mono HB0.out.size))
  clear hb1 g0 g1
  obtain ⟨g0, g1⟩ := gvCells R1.out
  go_wp2_with fail
  refine (HHD.out _ HB1.out).mono ?_
  rintro e w2 ⟨A, cc, rfl, hrow, hb2⟩
  have HR := Lib.hid (hrow.base HB1.out.size)
  have HB2 := Lib.hid (HB1.out.trans (hb2.mono HB1.out.size))
  clear hb2 hrow
  go_wp2_with fail
  go_ret
  exact ⟨A, cc, rfl, HR.out, HB2.out⟩

set_option maxRecDepth 100000 in
set_option maxHeartbeats 1000000 in
theorem find_any (B : Nat) (nm : ByteArray) (r : Rg) (v : Vr) (f : Nat) (w : World) (hg : Gd w B nm r v) :
    Calls Try.prog 25 #[.agg (gv r v), .int .u64 (f : Int)] w (SmPost (fun j => (cg r j).p == f) r.c.length w) := by
  have hbz := (box_below w (.cells (gv r v) 26)).trans ((box_below (w.alloc (.cells (gv r v) 26)) (.cells #[.int .u64 (f : Int)] 27)).mono (by simp))
  have HB0 := Lib.hid hbz
  have R0 := Lib.hid (heap_alloc2_old w (.cells (gv r v) 26) (.cells #[.int .u64 (f : Int)] 27))
  have F0 := Lib.hid (heap_alloc2_new w (.cells (gv r v) 26) (.cells #[.int .u64 (f : Int)] 27))
  have HCK := Lib.hid (fun w' (hw : Below w.heap.size w w') => check_ok (hg.below hw))
  have n2 := hg.f.n2
  have hs := fun w' (hw : Below w.heap.size w w') (hf : w'.heap[w.heap.size + 1]? = some (.cells #[.int .u64 (f : Int)] 27 (0, 0))) =>
    fp_some (w.heap.size + 1) B nm r v (fun j => (cg r j).p == f) w' (hg.l.below hw) (by omega) (fun j hj w2 hw2 => fp_call (cg r j) f _ w2 ((cell_of_row _ _ 0 _ _ _ ((hw2.block _ (row_lt hf)).trans hf)).trans rfl) (Nat.lt_of_lt_of_le (row_lt hf) hw2.size))
  have HS := Lib.hid hs
  simp only [gv] at HS
  unfold SmPost at HS
  clear hg hbz hs
  obtain ⟨g0, g1⟩ := gvCells R0.out
  go_enter Try.func25, Try.ntmps25
  go_wp2_with fail
  refine (HCK.out _ HB0.out).mono ?_
  rintro e w1 ⟨rfl, hb1⟩
  have R1 := Lib.hid ((hb1.block _ (row_lt R0.out)).trans R0.out)
  have F1 := Lib.hid ((hb1.block _ (row_lt F0.out)).trans F0.out)
  have HB1 := Lib.hid (HB0.out.trans (hb1.mono HB0.out.size))
  clear hb1 g0 g1
  obtain ⟨g0, g1⟩ := gvCells R1.out
  go_wp2_with fail
  refine (HS.out _ HB1.out F1.out).mono ?_
  rintro e w2 ⟨A, cc, rfl, hrow, hb2⟩
  have HR := Lib.hid (hrow.base HB1.out.size)
  have HB2 := Lib.hid (HB1.out.trans (hb2.mono HB1.out.size))
  clear hb2 hrow
  go_wp2_with fail
  go_ret
  exact ⟨A, cc, rfl, HR.out, HB2.out⟩

set_option maxRecDepth 100000 in
set_option maxHeartbeats 400000 in
theorem has_any (l : List Nat) (x : Nat) (A : Option Addr) (n cc : Nat) (w : World) (h : Row w 0 1 A n (iv l)) (hn : n ≤ 1000) :
    Calls Try.prog 33 #[.slice A n cc, .int .i64 (x : Int)] w fun e w' => e = .returned (.bool (anyB (fun j => l.getD j 0 == x) n)) ∧ w' = w := by
  have H := Lib.hid h
  clear h
  go_enter Try.func33, Try.ntmps33
  go_wp2_with fail
  go_loopw [9] (fun ii wr => ∃ k : Nat, k ≤ n ∧ ii = .int .i64 k ∧ (∀ j, j < k → (l.getD j 0 == x) = false) ∧ wr = w) (fun ii _ => n - (intOf ii).toNat)
  case atStart => exact ⟨0, by omega, rfl, fun j h => absurd h (by omega), rfl⟩
  case round =>
    obtain ⟨k, hk, rfl, hno, rfl⟩ := hrel
    have HNO := Lib.hid hno
    clear hno
    by_cases hlt : k < n
    · obtain ⟨b, off, hA, -, -, d0⟩ := H.out.int hlt
      subst hA
      have i0 : (0 : Int) ≤ (k : Int) := by omega
      have i1 : (k : Int) < (n : Int) := by omega
      generalize hy : l.getD k 0 = y at *
      have HY := Lib.hid hy
      clear hy
      by_cases e : y = x
      · have k1 : ((y : Int) == (x : Int)) = true := by rw [e]; simp
        have HE := Lib.hid e
        clear e
        go_wp2_with fail
        go_ret
        exact ⟨by rw [(any_iff _ _).2 ⟨k, hlt, by rw [HY.out, HE.out]; simp⟩]; rfl, rfl⟩
      · have k1 : ((y : Int) == (x : Int)) = false := beq_eq_false_iff_ne.2 (by omega)
        have k2 : (y == x) = false := beq_eq_false_iff_ne.2 e
        have HK2 := Lib.hid k2
        clear e k2
        go_wp2_with fail
        exact ⟨⟨k + 1, by omega, by go_num, fun j hj => by
          by_cases e : j = k
          · rw [e, HY.out]; exact HK2.out
          · exact HNO.out j (by omega), by first | rfl | trivial⟩, by simp [intOf]; omega⟩
    · obtain rfl : n = k := by omega
      go_wp2_with fail
      go_ret
      exact ⟨by rw [any_no HNO.out]; rfl, rfl⟩

end Go.Proofs.Ytablgpcgfogfoaa.Rg
