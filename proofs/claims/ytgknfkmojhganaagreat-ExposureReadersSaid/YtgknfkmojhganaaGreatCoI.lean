import Derived.Test.YtgknfkmojhganaaGreatCoH
import Derived.Deep.RegionWith
import Derived.Deep.RegionHeld3
namespace Go.Proofs.YtgknfkmojhganaaGreat.Di
open Go.RowKit
open Go.Proofs.YtgknfkmojhganaaGreat.Tp
set_option linter.unusedVariables false
set_option linter.unusedSimpArgs false

set_option maxRecDepth 100000 in
set_option maxHeartbeats 16000000 in
theorem valid_yes (a : Es) (v : Ve) (w : World) (h : EL w 0 a v) (hok : Eok a) :
    Calls Tryz.prog 47 #[.agg (ge a v)] w fun e w' => e = .returned (.bool true) ∧ Below w.heap.size w w' := by
  obtain ⟨A, vc⟩ := v
  have hn1 := hok.n1
  have hn16 := hok.n16
  have hm := hok.m
  have HOK := Lib.hid hok
  have HE := Lib.hid h
  have HB0 := Lib.hid (box_below w (.cells (ge a ⟨A, vc⟩) 28))
  have R0 := Lib.hid (heap_alloc_new w (.cells (ge a ⟨A, vc⟩) 28))
  obtain ⟨g0, g1⟩ := geCells R0.out
  have HF := Lib.hid (show (#[.int .i64 a.n, .slice A a.e.length vc] : Array Value) = ge a ⟨A, vc⟩ from rfl)
  have dm : decide ((120 : Int) < (a.e.length : Int)) = false := decide_eq_false (by omega)
  clear h hok
  go_enter Tryz.func47, Tryz.ntmps47
  go_wp2_with (first | (go_at_call 80; (with_reducible refine (in_yes (by omega) (by omega) _).mono ?_); rintro e w1 ⟨rfl, rfl⟩))
  go_loopw [18] (fun ii wr => ∃ k : Nat, k ≤ a.e.length ∧ ii = .int .i64 (k : Int) ∧ Below w.heap.size w wr ∧ wr.heap[w.heap.size]? = some (.cells (ge a ⟨A, vc⟩) 28 (0, 0))) (fun ii _ => a.e.length - (intOf ii).toNat)
  case atStart => exact ⟨0, by omega, rfl, HB0.out, R0.out⟩
  case round =>
    obtain ⟨k, hk, rfl, hbl, hbx⟩ := hrel
    have HBL := Lib.hid hbl
    have HBX := Lib.hid hbx
    obtain ⟨c0, c1⟩ := geCells hbx
    clear hbl hbx g0 g1 R0 HB0
    by_cases hlt : k < a.e.length
    · obtain ⟨b, off, hA, -, hbk, hac⟩ := (Row.below HE.out HBL.out).ac hlt
      have hA : A = some ⟨b, off, none⟩ := hA
      subst hA
      obtain ⟨y0, y1, y2, y3, y4, y5, y6⟩ := hac
      have HEV := Lib.hid (fun w' => event_any a ⟨some ⟨b, off, none⟩, vc⟩ (ag a.e k) w' ⟨hn1, hn16⟩ (HOK.out.e k hlt))
      have HUP := Lib.hid (fun j (hj : k = j + 1) => (by have := HOK.out.up j (by omega); rwa [← hj] at this : (ag a.e j).t ≤ (ag a.e k).t))
      generalize ag a.e k = x at *
      obtain ⟨xt, xk, xp, xr, xu, xc, xf⟩ := x
      simp only at y0 y1 y2 y3 y4 y5 y6
      have hbx := box_below wr (.cells #[.int .i64 xt, .int .i64 xk, .int .i64 xp, .int .i64 xr, .int .i64 xu, .int .i64 xc, .int .i64 xf] 76)
      have BX := Lib.hid (HBL.out.trans (hbx.mono HBL.out.size))
      have QX := Lib.hid ((hbx.block _ (row_lt HBX.out)).trans HBX.out)
      have XN := Lib.hid (heap_alloc_new wr (.cells (acc ⟨xt, xk, xp, xr, xu, xc, xf⟩) 76))
      obtain ⟨n0, n1, n2, n3, n4, n5, n6⟩ := accCells XN.out
      simp only at n0 n1 n2 n3 n4 n5 n6
      obtain ⟨z0, z1⟩ := geCells QX.out
      have HX := Lib.hid (show (#[.int .i64 xt, .int .i64 xk, .int .i64 xp, .int .i64 xr, .int .i64 xu, .int .i64 xc, .int .i64 xf] : Array Value) = acc ⟨xt, xk, xp, xr, xu, xc, xf⟩ from rfl)
      have j0' : (0 : Int) ≤ (k : Int) := by omega
      have j1' : (k : Int) < (a.e.length : Int) := by omega
      have hac2 := fun (j : Nat) (hj : k = j + 1) w' (hb : Below w.heap.size w w') => (Row.below HE.out hb).ac (i := j) (by show j < a.e.length; omega)
      have HAC := Lib.hid hac2
      clear hbx hac2
      by_cases h0 : k = 0
      · subst h0
        simp only [Nat.zero_mul, Nat.add_zero] at y0 y1 y2 y3 y4 y5 y6
        clear HUP HAC
        go_wp2_with fail
        have XN2 := Lib.hid (show (wr.alloc (.cells #[.int .i64 xt, .int .i64 xk, .int .i64 xp, .int .i64 xr, .int .i64 xu, .int .i64 xc, .int .i64 xf] 76)).heap[wr.heap.size]? = some (.cells #[.int .i64 xt, .int .i64 xk, .int .i64 xp, .int .i64 xr, .int .i64 xu, .int .i64 xc, .int .i64 xf] 76 (0, 0)) from XN.out)
        clear XN
        generalize hwx : wr.alloc (.cells #[.int .i64 xt, .int .i64 xk, .int .i64 xp, .int .i64 xr, .int .i64 xu, .int .i64 xc, .int .i64 xf] 76) = wx at *
        have HKP := Lib.hid (fun w' (hb : Below wx.heap.size wx w') => (by
          have q7 := (hb.block _ (row_lt QX.out)).trans QX.out
          have m7 := (hb.block _ (row_lt XN2.out)).trans XN2.out
          obtain ⟨e0, e1⟩ := geCells q7
          obtain ⟨f0, f1, f2, f3, f4, f5, f6⟩ := accCells (x := ⟨xt, xk, xp, xr, xu, xc, xf⟩) m7
          exact ⟨e0, e1, f0, f1, f2, f3, f4, f5, f6, hb⟩ : (fun w' => w'.cell? ⟨w.heap.size, 0, none⟩ = some (.int .i64 a.n) ∧ w'.cell? ⟨w.heap.size, 1, none⟩ = some (.slice (some ⟨b, off, none⟩) a.e.length vc) ∧ w'.cell? ⟨wr.heap.size, 0, none⟩ = some (.int .i64 xt) ∧ w'.cell? ⟨wr.heap.size, 1, none⟩ = some (.int .i64 xk) ∧ w'.cell? ⟨wr.heap.size, 2, none⟩ = some (.int .i64 xp) ∧ w'.cell? ⟨wr.heap.size, 3, none⟩ = some (.int .i64 xr) ∧ w'.cell? ⟨wr.heap.size, 4, none⟩ = some (.int .i64 xu) ∧ w'.cell? ⟨wr.heap.size, 5, none⟩ = some (.int .i64 xc) ∧ w'.cell? ⟨wr.heap.size, 6, none⟩ = some (.int .i64 xf) ∧ Below wx.heap.size wx w') w'))
        have bd9 : Below wx.heap.size wx wx := Below.refl _ _
        have bd0 : Below wx.heap.size wx wx.drew := bd9.drew
        clear hwx
        refine wp_region_held_drew (S := fun w' => w'.cell? ⟨w.heap.size, 0, none⟩ = some (.int .i64 a.n) ∧ w'.cell? ⟨w.heap.size, 1, none⟩ = some (.slice (some ⟨b, off, none⟩) a.e.length vc) ∧ w'.cell? ⟨wr.heap.size, 0, none⟩ = some (.int .i64 xt) ∧ w'.cell? ⟨wr.heap.size, 1, none⟩ = some (.int .i64 xk) ∧ w'.cell? ⟨wr.heap.size, 2, none⟩ = some (.int .i64 xp) ∧ w'.cell? ⟨wr.heap.size, 3, none⟩ = some (.int .i64 xr) ∧ w'.cell? ⟨wr.heap.size, 4, none⟩ = some (.int .i64 xu) ∧ w'.cell? ⟨wr.heap.size, 5, none⟩ = some (.int .i64 xc) ∧ w'.cell? ⟨wr.heap.size, 6, none⟩ = some (.int .i64 xf) ∧ Below wx.heap.size wx w') (by kernel_rfl) ?_ (fun hHeld => ?_)
        · exact HKP.out _ bd0
        refine wpAnyH_take (i := 0) (oi := { dst := some 23, op := Op.load 28 (Operand.tmp 1), type := 28, pos := "ref.go:42", after := #[], guard := none }) (v := ?v0) rfl (by kernel_rfl) (by kernel_rfl) (by kernel_rfl) (fun _ _ _ h => h) (Or.inl ⟨by rfl, ?y0⟩) (by assumption) ?r0
        case y0 => (intro w hSw; (try dsimp only at hSw); go_simp; try with_reducible rfl)
        try simp only [List.getElem_toArray, List.getElem_cons_succ, List.getElem_cons_zero, Act.put, List.setIfInBounds_toArray, List.set_cons_zero, List.set_cons_succ]
        refine wpAnyH_take (i := 1) (oi := { dst := some 24, op := Op.load 76 (Operand.tmp 4), type := 76, pos := "ref.go:42", after := #[], guard := none }) (v := ?v1) rfl (by kernel_rfl) (by kernel_rfl) (by kernel_rfl) (fun _ _ _ h => h) (Or.inl ⟨by rfl, ?y1⟩) (by assumption) ?r1
        case y1 => (intro w hSw; (try dsimp only at hSw); go_simp; try with_reducible rfl)
        try simp only [List.getElem_toArray, List.getElem_cons_succ, List.getElem_cons_zero, Act.put, List.setIfInBounds_toArray, List.set_cons_zero, List.set_cons_succ]
        refine wpAnyH_ready (rs := [2]) (by kernel_rfl) (by simp) ?_
        refine AllReadyH.cons rfl (fun K hK => ?_) AllReadyH.nil
        go_simp
        go_at_call 89
        (first | rw [HF.out] | skip)
        (first | rw [HX.out] | skip)
        (with_reducible refine (HEV.out _).mono ?_)
        rintro e w7 ⟨rfl, hb7⟩
        have b7 : Below wx.heap.size wx w7 := bd0.trans (hb7.mono bd0.size)
        clear hb7
        refine hK.out _ _ ?_ (fun hHeld => ?_)
        · exact HKP.out _ b7
        clear hK K
        try simp only [List.getElem_toArray, List.getElem_cons_succ, List.getElem_cons_zero, Act.put, List.setIfInBounds_toArray, List.set_cons_zero, List.set_cons_succ]
        refine wpAnyH_take (i := 3) (oi := { dst := some 26, op := Op.unOp UnOp.not 4 (Operand.tmp 25), type := 4, pos := "ref.go:42", after := #[{ on := 2, ground := Ground.data }], guard := none }) (v := ?v3) rfl (by kernel_rfl) (by kernel_rfl) (by kernel_rfl) (fun _ _ _ h => h) (Or.inl ⟨by rfl, ?y3⟩) (by assumption) ?r3
        case y3 => (intro w hSw; (try dsimp only at hSw); go_simp; try with_reducible rfl)
        try simp only [List.getElem_toArray, List.getElem_cons_succ, List.getElem_cons_zero, Act.put, List.setIfInBounds_toArray, List.set_cons_zero, List.set_cons_succ]
        refine wpAnyH_take (i := 4) (oi := { dst := some 27, op := Op.move (Operand.tmp 26), type := 4, pos := "ref.go:42", after := #[{ on := 3, ground := Ground.data }, { on := 2, ground := Ground.chain }], guard := none }) (v := ?v4) rfl (by kernel_rfl) (by kernel_rfl) (by kernel_rfl) (fun _ _ _ h => h) (Or.inl ⟨by rfl, ?y4⟩) (by assumption) ?r4
        case y4 => (intro w hSw; (try dsimp only at hSw); go_simp; try with_reducible rfl)
        try simp only [List.getElem_toArray, List.getElem_cons_succ, List.getElem_cons_zero, Act.put, List.setIfInBounds_toArray, List.set_cons_zero, List.set_cons_succ]
        refine wpAnyH_take (i := 5) (oi := { dst := some 28, op := Op.move (Operand.tmp 3), type := 3, pos := "ref.go:42", after := #[{ on := 4, ground := Ground.guard }], guard := some (4, false) }) (v := ?v5) rfl (by kernel_rfl) (by kernel_rfl) (by kernel_rfl) (fun _ _ _ h => h) (Or.inl ⟨by rfl, ?y5⟩) (by assumption) ?r5
        case y5 => (intro w hSw; (try dsimp only at hSw); go_simp; try with_reducible rfl)
        try simp only [List.getElem_toArray, List.getElem_cons_succ, List.getElem_cons_zero, Act.put, List.setIfInBounds_toArray, List.set_cons_zero, List.set_cons_succ]
        refine wpAnyH_take (i := 6) (oi := { dst := some 29, op := Op.binOp BinOp.gtr 3 (Operand.tmp 28) (Operand.const (Value.int IntKind.i64 0)) 3, type := 4, pos := "ref.go:42", after := #[{ on := 5, ground := Ground.data }, { on := 4, ground := Ground.guard }], guard := some (4, false) }) (v := ?v6) rfl (by kernel_rfl) (by kernel_rfl) (by kernel_rfl) (fun _ _ _ h => h) (Or.inl ⟨by rfl, ?y6⟩) (by assumption) ?r6
        case y6 => (intro w hSw; (try dsimp only at hSw); go_simp; try with_reducible rfl)
        try simp only [List.getElem_toArray, List.getElem_cons_succ, List.getElem_cons_zero, Act.put, List.setIfInBounds_toArray, List.set_cons_zero, List.set_cons_succ]
        refine wpAnyH_take (i := 7) (oi := { dst := some 30, op := Op.move (Operand.tmp 29), type := 4, pos := "ref.go:42", after := #[{ on := 6, ground := Ground.data }, { on := 4, ground := Ground.chain }, { on := 4, ground := Ground.guard }], guard := some (4, false) }) (v := ?v7) rfl (by kernel_rfl) (by kernel_rfl) (by kernel_rfl) (fun _ _ _ h => h) (Or.inl ⟨by rfl, ?y7⟩) (by assumption) ?r7
        case y7 => (intro w hSw; (try dsimp only at hSw); go_simp; try with_reducible rfl)
        try simp only [List.getElem_toArray, List.getElem_cons_succ, List.getElem_cons_zero, Act.put, List.setIfInBounds_toArray, List.set_cons_zero, List.set_cons_succ]
        refine wpAnyH_take (i := 8) (oi := { dst := some 31, op := Op.fieldAddr 76 (Operand.tmp 4) 0, type := 0, pos := "ref.go:42", after := #[{ on := 7, ground := Ground.guard }], guard := some (7, true) }) (v := undef) rfl (by kernel_rfl) (by kernel_rfl) (by kernel_rfl) (fun _ _ _ h => h) (Or.inr ⟨by rfl, rfl⟩) (by assumption) ?_
        try simp only [List.getElem_toArray, List.getElem_cons_succ, List.getElem_cons_zero, Act.put, List.setIfInBounds_toArray, List.set_cons_zero, List.set_cons_succ]
        refine wpAnyH_take (i := 9) (oi := { dst := some 32, op := Op.load 3 (Operand.tmp 31), type := 3, pos := "ref.go:42", after := #[{ on := 8, ground := Ground.data }, { on := 7, ground := Ground.guard }], guard := some (7, true) }) (v := undef) rfl (by kernel_rfl) (by kernel_rfl) (by kernel_rfl) (fun _ _ _ h => h) (Or.inr ⟨by rfl, rfl⟩) (by assumption) ?_
        try simp only [List.getElem_toArray, List.getElem_cons_succ, List.getElem_cons_zero, Act.put, List.setIfInBounds_toArray, List.set_cons_zero, List.set_cons_succ]
        refine wpAnyH_take (i := 10) (oi := { dst := some 33, op := Op.fieldAddr 28 (Operand.tmp 1) 1, type := 0, pos := "ref.go:42", after := #[{ on := 7, ground := Ground.guard }], guard := some (7, true) }) (v := undef) rfl (by kernel_rfl) (by kernel_rfl) (by kernel_rfl) (fun _ _ _ h => h) (Or.inr ⟨by rfl, rfl⟩) (by assumption) ?_
        try simp only [List.getElem_toArray, List.getElem_cons_succ, List.getElem_cons_zero, Act.put, List.setIfInBounds_toArray, List.set_cons_zero, List.set_cons_succ]
        refine wpAnyH_take (i := 11) (oi := { dst := some 34, op := Op.load 26 (Operand.tmp 33), type := 26, pos := "ref.go:42", after := #[{ on := 10, ground := Ground.data }, { on := 7, ground := Ground.guard }], guard := some (7, true) }) (v := undef) rfl (by kernel_rfl) (by kernel_rfl) (by kernel_rfl) (fun _ _ _ h => h) (Or.inr ⟨by rfl, rfl⟩) (by assumption) ?_
        try simp only [List.getElem_toArray, List.getElem_cons_succ, List.getElem_cons_zero, Act.put, List.setIfInBounds_toArray, List.set_cons_zero, List.set_cons_succ]
        refine wpAnyH_take (i := 12) (oi := { dst := some 35, op := Op.move (Operand.tmp 3), type := 3, pos := "ref.go:42", after := #[{ on := 7, ground := Ground.guard }], guard := some (7, true) }) (v := undef) rfl (by kernel_rfl) (by kernel_rfl) (by kernel_rfl) (fun _ _ _ h => h) (Or.inr ⟨by rfl, rfl⟩) (by assumption) ?_
        try simp only [List.getElem_toArray, List.getElem_cons_succ, List.getElem_cons_zero, Act.put, List.setIfInBounds_toArray, List.set_cons_zero, List.set_cons_succ]
        refine wpAnyH_take (i := 13) (oi := { dst := some 36, op := Op.binOp BinOp.sub 3 (Operand.tmp 35) (Operand.const (Value.int IntKind.i64 1)) 3, type := 3, pos := "ref.go:42", after := #[{ on := 12, ground := Ground.data }, { on := 7, ground := Ground.guard }], guard := some (7, true) }) (v := undef) rfl (by kernel_rfl) (by kernel_rfl) (by kernel_rfl) (fun _ _ _ h => h) (Or.inr ⟨by rfl, rfl⟩) (by assumption) ?_
        try simp only [List.getElem_toArray, List.getElem_cons_succ, List.getElem_cons_zero, Act.put, List.setIfInBounds_toArray, List.set_cons_zero, List.set_cons_succ]
        refine wpAnyH_take (i := 14) (oi := { dst := some 37, op := Op.indexAddr 26 (Operand.tmp 34) (Operand.tmp 36), type := 0, pos := "ref.go:42", after := #[{ on := 11, ground := Ground.data }, { on := 13, ground := Ground.data }, { on := 7, ground := Ground.guard }], guard := some (7, true) }) (v := undef) rfl (by kernel_rfl) (by kernel_rfl) (by kernel_rfl) (fun _ _ _ h => h) (Or.inr ⟨by rfl, rfl⟩) (by assumption) ?_
        try simp only [List.getElem_toArray, List.getElem_cons_succ, List.getElem_cons_zero, Act.put, List.setIfInBounds_toArray, List.set_cons_zero, List.set_cons_succ]
        refine wpAnyH_take (i := 15) (oi := { dst := some 38, op := Op.fieldAddr 76 (Operand.tmp 37) 0, type := 0, pos := "ref.go:42", after := #[{ on := 14, ground := Ground.data }, { on := 7, ground := Ground.guard }], guard := some (7, true) }) (v := undef) rfl (by kernel_rfl) (by kernel_rfl) (by kernel_rfl) (fun _ _ _ h => h) (Or.inr ⟨by rfl, rfl⟩) (by assumption) ?_
        try simp only [List.getElem_toArray, List.getElem_cons_succ, List.getElem_cons_zero, Act.put, List.setIfInBounds_toArray, List.set_cons_zero, List.set_cons_succ]
        refine wpAnyH_take (i := 16) (oi := { dst := some 39, op := Op.load 3 (Operand.tmp 38), type := 3, pos := "ref.go:42", after := #[{ on := 15, ground := Ground.data }, { on := 7, ground := Ground.guard }], guard := some (7, true) }) (v := undef) rfl (by kernel_rfl) (by kernel_rfl) (by kernel_rfl) (fun _ _ _ h => h) (Or.inr ⟨by rfl, rfl⟩) (by assumption) ?_
        try simp only [List.getElem_toArray, List.getElem_cons_succ, List.getElem_cons_zero, Act.put, List.setIfInBounds_toArray, List.set_cons_zero, List.set_cons_succ]
        refine wpAnyH_take (i := 17) (oi := { dst := some 40, op := Op.binOp BinOp.lss 3 (Operand.tmp 32) (Operand.tmp 39) 3, type := 4, pos := "ref.go:42", after := #[{ on := 9, ground := Ground.data }, { on := 16, ground := Ground.data }, { on := 7, ground := Ground.guard }], guard := some (7, true) }) (v := undef) rfl (by kernel_rfl) (by kernel_rfl) (by kernel_rfl) (fun _ _ _ h => h) (Or.inr ⟨by rfl, rfl⟩) (by assumption) ?_
        try simp only [List.getElem_toArray, List.getElem_cons_succ, List.getElem_cons_zero, Act.put, List.setIfInBounds_toArray, List.set_cons_zero, List.set_cons_succ]
        refine wpAnyH_take (i := 18) (oi := { dst := some 41, op := Op.pick (Operand.tmp 30) (Operand.tmp 40) (Operand.const (Value.bool false)), type := 4, pos := "ref.go:42", after := #[{ on := 7, ground := Ground.data }, { on := 17, ground := Ground.data }, { on := 4, ground := Ground.guard }], guard := some (4, false) }) (v := ?v18) rfl (by kernel_rfl) (by kernel_rfl) (by kernel_rfl) (fun _ _ _ h => h) (Or.inl ⟨by rfl, ?y18⟩) (by assumption) ?r18
        case y18 => (intro w hSw; (try dsimp only at hSw); go_simp; try with_reducible rfl)
        try simp only [List.getElem_toArray, List.getElem_cons_succ, List.getElem_cons_zero, Act.put, List.setIfInBounds_toArray, List.set_cons_zero, List.set_cons_succ]
        refine wpAnyH_take (i := 19) (oi := { dst := some 42, op := Op.pick (Operand.tmp 27) (Operand.const (Value.bool true)) (Operand.tmp 41), type := 4, pos := "ref.go:42", after := #[{ on := 4, ground := Ground.data }, { on := 18, ground := Ground.data }], guard := none }) (v := ?v19) rfl (by kernel_rfl) (by kernel_rfl) (by kernel_rfl) (fun _ _ _ h => h) (Or.inl ⟨by rfl, ?y19⟩) (by assumption) ?r19
        case y19 => (intro w hSw; (try dsimp only at hSw); go_simp; try with_reducible rfl)
        try simp only [List.getElem_toArray, List.getElem_cons_succ, List.getElem_cons_zero, Act.put, List.setIfInBounds_toArray, List.set_cons_zero, List.set_cons_succ]
        refine wpAnyH_done (by kernel_rfl) ?_ _
        have P7 := Lib.hid (BX.out.trans (b7.mono BX.out.size))
        have Q7 := Lib.hid ((b7.block _ (row_lt QX.out)).trans QX.out)
        clear b7 bd9 bd0
        go_wp2_with fail
        exact ⟨⟨1, by omega, by go_num, P7.out, Q7.out⟩, by simp [intOf]; omega⟩
      · obtain ⟨j, hj⟩ : ∃ j, k = j + 1 := ⟨k - 1, by omega⟩
        have HTJ := Lib.hid (HUP.out j hj)
        have d1 : decide (xt < (ag a.e j).t) = false := decide_eq_false (by have := HTJ.out; simp only at this; omega)
        have HACJ := Lib.hid (HAC.out j hj)
        generalize (ag a.e j) = y at *
        subst hj
        clear h0 HTJ HUP HAC
        have l0 : (0 : Int) ≤ (j : Int) := by omega
        have l1 : (j : Int) < (a.e.length : Int) := by omega
        have hw0 : IntKind.i64.wrap (j : Int) = (j : Int) := IntWalk.i64_in _ (by omega)
        have hw1 : IntKind.i64.wrap ((j : Int) + 1 - 1) = (j : Int) := by rw [show (j : Int) + 1 - 1 = (j : Int) by omega]; exact hw0
        have l3 : j < a.e.length := by omega
        have l4 : (j : Int) ≤ (a.e.length : Int) := by omega
        go_wp2_with fail
        have XN2 := Lib.hid (show (wr.alloc (.cells #[.int .i64 xt, .int .i64 xk, .int .i64 xp, .int .i64 xr, .int .i64 xu, .int .i64 xc, .int .i64 xf] 76)).heap[wr.heap.size]? = some (.cells #[.int .i64 xt, .int .i64 xk, .int .i64 xp, .int .i64 xr, .int .i64 xu, .int .i64 xc, .int .i64 xf] 76 (0, 0)) from XN.out)
        clear XN
        generalize hwx : wr.alloc (.cells #[.int .i64 xt, .int .i64 xk, .int .i64 xp, .int .i64 xr, .int .i64 xu, .int .i64 xc, .int .i64 xf] 76) = wx at *
        have HKP := Lib.hid (fun w' (hb : Below wx.heap.size wx w') => (by
          have q7 := (hb.block _ (row_lt QX.out)).trans QX.out
          have m7 := (hb.block _ (row_lt XN2.out)).trans XN2.out
          obtain ⟨e0, e1⟩ := geCells q7
          obtain ⟨f0, f1, f2, f3, f4, f5, f6⟩ := accCells (x := ⟨xt, xk, xp, xr, xu, xc, xf⟩) m7
          obtain ⟨b', off', hA', -, hbk', u0, -⟩ := HACJ.out w' (BX.out.trans (hb.mono BX.out.size))
          cases hA'
          exact ⟨e0, e1, f0, f1, f2, f3, f4, f5, f6, u0, hb⟩ : (fun w' => w'.cell? ⟨w.heap.size, 0, none⟩ = some (.int .i64 a.n) ∧ w'.cell? ⟨w.heap.size, 1, none⟩ = some (.slice (some ⟨b, off, none⟩) a.e.length vc) ∧ w'.cell? ⟨wr.heap.size, 0, none⟩ = some (.int .i64 xt) ∧ w'.cell? ⟨wr.heap.size, 1, none⟩ = some (.int .i64 xk) ∧ w'.cell? ⟨wr.heap.size, 2, none⟩ = some (.int .i64 xp) ∧ w'.cell? ⟨wr.heap.size, 3, none⟩ = some (.int .i64 xr) ∧ w'.cell? ⟨wr.heap.size, 4, none⟩ = some (.int .i64 xu) ∧ w'.cell? ⟨wr.heap.size, 5, none⟩ = some (.int .i64 xc) ∧ w'.cell? ⟨wr.heap.size, 6, none⟩ = some (.int .i64 xf) ∧ w'.cell? ⟨b, off + j * 7, none⟩ = some (.int .i64 y.t) ∧ Below wx.heap.size wx w') w'))
        have bd9 : Below wx.heap.size wx wx := Below.refl _ _
        have bd0 : Below wx.heap.size wx wx.drew := bd9.drew
        clear hwx
        go_region_held3 (fun w' => w'.cell? ⟨w.heap.size, 0, none⟩ = some (.int .i64 a.n) ∧ w'.cell? ⟨w.heap.size, 1, none⟩ = some (.slice (some ⟨b, off, none⟩) a.e.length vc) ∧ w'.cell? ⟨wr.heap.size, 0, none⟩ = some (.int .i64 xt) ∧ w'.cell? ⟨wr.heap.size, 1, none⟩ = some (.int .i64 xk) ∧ w'.cell? ⟨wr.heap.size, 2, none⟩ = some (.int .i64 xp) ∧ w'.cell? ⟨wr.heap.size, 3, none⟩ = some (.int .i64 xr) ∧ w'.cell? ⟨wr.heap.size, 4, none⟩ = some (.int .i64 xu) ∧ w'.cell? ⟨wr.heap.size, 5, none⟩ = some (.int .i64 xc) ∧ w'.cell? ⟨wr.heap.size, 6, none⟩ = some (.int .i64 xf) ∧ w'.cell? ⟨b, off + j * 7, none⟩ = some (.int .i64 y.t) ∧ Below wx.heap.size wx w')
          (first | (with_reducible assumption) | (with_reducible exact HKP.out _ bd9) | (with_reducible exact HKP.out _ bd0) | (with_reducible exact HKP.out _ b7))
          (first | (go_at_call 89; (first | rw [HF.out] | skip); (first | rw [HX.out] | skip); (with_reducible refine (HEV.out _).mono ?_); rintro e w7 ⟨rfl, hb7⟩; go_split_ands; have b7 : Below wx.heap.size wx w7 := Below.trans (by with_reducible assumption) (hb7.mono (Below.size (by with_reducible assumption))); clear hb7))
        go_split_ands
        have P7 := Lib.hid (BX.out.trans (b7.mono BX.out.size))
        have Q7 := Lib.hid ((b7.block _ (row_lt QX.out)).trans QX.out)
        clear b7 bd9 bd0
        go_wp2_with fail
        exact ⟨⟨j + 1 + 1, by omega, by go_num, P7.out, Q7.out⟩, by simp [intOf]; omega⟩
    · obtain rfl : k = a.e.length := by omega
      go_wp2_with fail
      go_ret
      exact ⟨rfl, HBL.out⟩

end Go.Proofs.YtgknfkmojhganaaGreat.Di
