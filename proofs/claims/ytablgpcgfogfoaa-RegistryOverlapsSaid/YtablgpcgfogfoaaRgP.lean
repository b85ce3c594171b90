import Derived.Test.YtablgpcgfogfoaaRgO
namespace Go.Proofs.Ytablgpcgfogfoaa.Rg
open Go.RowKit
open Go.Proofs.Ytablgpcgfogfoaa.Tp
set_option linter.unusedVariables false

theorem gv_rev (r : Rg) (k t : Nat) (u : Vr) : gv (rev r k t) u = gv r u := by unfold gv; rw [rev_len]; rfl

set_option maxRecDepth 100000 in
set_option maxHeartbeats 2000000 in
theorem revoke_any (B : Nat) (nm : ByteArray) (r : Rg) (v : Vr) (k t : Nat) (w : World) (hg : Gd w B nm r v) (hk : k < r.c.length) (ht : (cg r k).f < t) :
    Calls Try.prog 27 #[.agg (gv r v), .int .i64 (k : Int), .int .i64 (t : Int)] w (RvPost nm r k t w) := by
  obtain ⟨a1, a2, hb, -⟩ := cpstart nm B r v w hg.l
  have A1 := Lib.hid a1
  have A2 := Lib.hid a2
  have HB := Lib.hid hb
  have n1 := hg.f.n1
  have n2 := hg.f.n2
  have HG := Lib.hid hg
  have HCK := Lib.hid (fun w' (hw : Below w.heap.size w w') => check_ok (hg.below hw))
  have HCP := Lib.hid (fun w' (hw : Below w.heap.size w w') => copyOf_any B nm r v w' (hg.l.below hw) (by omega) (by omega))
  simp only [gv] at HCP
  clear hg a1 a2 hb
  unfold zG at A1 A2 HB
  obtain ⟨g0, g1⟩ := gvCells A1.out
  go_enter Try.func27, Try.ntmps27
  go_wp2_with fail
  refine (HCK.out _ HB.out).mono ?_
  rintro e w1 ⟨rfl, hb1⟩
  have B1 := Lib.hid ((hb1.block _ (row_lt A1.out)).trans A1.out)
  have B2 := Lib.hid ((hb1.block _ (row_lt A2.out)).trans A2.out)
  have HB1 := Lib.hid (HB.out.trans (hb1.mono HB.out.size))
  clear hb1 g0 g1
  obtain ⟨g0, g1⟩ := gvCells B1.out
  obtain ⟨b, off, hA, -, hbk, y0, y1, y2, y3, y4⟩ := (HG.out.l.below HB1.out).r2.crd hk
  have hK : r.c.getD k c0 = cg r k := rfl
  rw [hK] at y3
  have hle : decide ((t : Int) ≤ ((cg r k).f : Int)) = false := decide_eq_false (by omega)
  have hle2 : ¬ t ≤ (cg r k).f := by omega
  have j0 : (0 : Int) ≤ (k : Int) := by omega
  have j1 : (k : Int) < (r.c.length : Int) := by omega
  have hcp := HCP.out _ HB1.out
  rw [hA] at g1 hcp
  have HCP1 := Lib.hid hcp
  have HAA := Lib.hid hA
  clear hK y0 y1 y2 y4 hA hcp
  generalize (cg r k).f = f at *
  go_wp2_with (go_at_call 43; (with_reducible refine (num_yes k r.c.length _ hk (by omega)).mono ?_); rintro e w2 ⟨rfl, rfl⟩)
  refine HCP1.out.mono ?_
  rintro e w3 ⟨u, rfl, hown, hb3⟩
  have D1 := Lib.hid ((hb3.block _ (row_lt B1.out)).trans B1.out)
  have D2 := Lib.hid ((hb3.block _ (row_lt B2.out)).trans B2.out)
  have l1 : w.heap.size + 1 < w1.heap.size := row_lt B2.out
  have l3 : w1.heap.size ≤ w3.heap.size := hb3.size
  have HB3 := Lib.hid (HB1.out.trans (hb3.mono HB1.out.size))
  have hbx := box_below w3 (.cells (gv r u) 26)
  have E2 := Lib.hid ((hbx.block _ (row_lt D2.out)).trans D2.out)
  have EG := Lib.hid (heap_alloc_new w3 (.cells (gv r u) 26))
  have HB4 := Lib.hid (HB3.out.trans (hbx.mono HB3.out.size))
  have HO4 := Lib.hid (hown.below hbx)
  obtain ⟨b2, off2, hA2, hB2, hbk2, z0, z1, z2, z3, z4⟩ := (hown.below hbx).rl.r2.crd hk
  have hbk3 : b2 < w3.heap.size := by
    obtain ⟨b', off', hA', -, hbk', -⟩ := hown.rl.r2.crd hk
    rw [hA2] at hA'
    cases hA'
    exact hbk'
  obtain rfl : off2 = 0 := by
    rcases hown.o2.2 with ⟨hv, _⟩ | ⟨g', cap, cur, hv, _⟩
    · rw [hA2] at hv; cases hv
    · rw [hA2] at hv; cases hv; rfl
  have hrv := rev_row (t := t) HO4.out hA2 hk
  have hfz : (w3.alloc (.cells (gv r u) 26)).frozen? ⟨b2, k * 5 + 4, none⟩ = false := by
    rcases HO4.out.o2.2 with ⟨hv, _⟩ | ⟨g', cap, cur, hv, _, hh, _⟩
    · rw [hA2] at hv; cases hv
    · rw [hA2] at hv; cases hv
      exact frozen_of_row _ _ _ _ _ hh
  have hK : r.c.getD k c0 = cg r k := rfl
  rw [hK] at z4
  rw [Nat.zero_add] at z4
  have HRV := Lib.hid hrv
  have HA2 := Lib.hid hA2
  clear hrv hbx hb3 hown z0 z1 z2 z3 hK g0 g1 y3 hle hle2
  generalize (cg r k).u = x at *
  generalize hW4 : w3.alloc (.cells (gv r u) 26) = W4 at *
  have HW4 := Lib.hid hW4
  clear hW4
  obtain ⟨g0, g1⟩ := gvCells EG.out
  rw [HA2.out] at g1
  go_wp2_with (with_reducible (show wpList _ _ _ (⟨none, .store 26 (.tmp 9) (.tmp 33), _, _, _, _⟩ :: _) _ _); refine wpList_store_row (o := ⟨none, .store 26 (.tmp 9) (.tmp 33), _, _, _, _⟩) rfl 26 (.tmp 9) (.tmp 33) rfl w3.heap.size (gv r u) rfl rfl 26 zG (heap_alloc_new _ _) (info26 _ _) rfl (gv_one _ _) ?_; rw [new_set, HW4.out])
  have HIF := Lib.hid (show (if x < t then (x : Int) else (t : Int)) = ((min t x : Nat) : Int) by split <;> omega)
  go_region
  all_goals
    rw [HIF.out]
    obtain ⟨hrl5, hg5⟩ := HRV.out
    have K2 := Lib.hid (show (W4.setCell ⟨b2, k * 5 + 4, none⟩ (.int .i64 ((min t x : Nat) : Int))).drew.heap[w.heap.size + 1]? = some (.cells zG 26 (0, 0)) from (hg5.block (w.heap.size + 1) (row_lt E2.out) (by simp; omega)).trans E2.out)
    have K9 := Lib.hid (show (W4.setCell ⟨b2, k * 5 + 4, none⟩ (.int .i64 ((min t x : Nat) : Int))).drew.heap[w3.heap.size]? = some (.cells (gv (rev r k t) u) 26 (0, 0)) by rw [gv_rev]; exact (hg5.block w3.heap.size (row_lt EG.out) (by simp; omega)).trans EG.out)
    have HB5 := Lib.hid (HB4.out.grown hg5 HB4.out.size (fun k e => by cases e; omega)).drew
    have HR5 := Lib.hid hrl5.drew
    clear hrl5 hg5 g0 g1 z4 hfz
    generalize (W4.setCell ⟨b2, k * 5 + 4, none⟩ (.int .i64 ((min t x : Nat) : Int))).drew = W5 at *
    go_wp2_with (first
      | (with_reducible (show wpList _ _ _ (⟨some 47, .load 26 (.tmp 9), _, _, _, _⟩ :: _) _ _); refine wpList_load_row (o := ⟨some 47, .load 26 (.tmp 9), _, _, _, _⟩) rfl 26 (.tmp 9) rfl w3.heap.size rfl 26 (gv (rev r k t) u) (0, 0) _ K9.out Try.underlying26 rfl (info26 _ _) ?_)
      | (with_reducible (show wpList _ _ _ (⟨none, .store 26 (.tmp 6) (.tmp 47), _, _, _, _⟩ :: _) _ _); refine wpList_store_row (o := ⟨none, .store 26 (.tmp 6) (.tmp 47), _, _, _, _⟩) rfl 26 (.tmp 6) (.tmp 47) rfl (w.heap.size + 1) (gv (rev r k t) u) rfl rfl 26 zG K2.out (info26 _ _) rfl (gv_one _ _) ?_))
    refine bodyPost_ret (v := .tuple #[.agg (gv (rev r k t) u), .int .i64 0]) (results_cell_row2 (fn := Try.f27) (p := 6) (u := 7) rfl _ _ (w.heap.size + 1) 26 (gv (rev r k t) u) (0, 0) _ rfl (setRow_heap _ _ _ _ _ _ K2.out) Try.underlying26 rfl (info26 _ _)) rfl ⟨u, rfl, (HR5.out.set (show w.heap.size + 1 < w1.heap.size by omega) _).base (by omega), below_setRow HB5.out (by omega) _⟩

end Go.Proofs.Ytablgpcgfogfoaa.Rg
