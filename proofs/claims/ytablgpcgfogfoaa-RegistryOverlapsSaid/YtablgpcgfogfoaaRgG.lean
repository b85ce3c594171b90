import Derived.Test.YtablgpcgfogfoaaRgF
namespace Go.Proofs.Ytablgpcgfogfoaa.Rg
open Go.RowKit
open Go.Proofs.Ytablgpcgfogfoaa.Tp
set_option linter.unusedVariables false

def IsPost (nm : ByteArray) (r : Rg) (x : Cr) (w : World) (e : Ending) (w' : World) : Prop :=
  (crowd (add r x) = true ∧ e = .returned (.tuple #[.agg zG, .int .i64 0, .int .i64 31]) ∧ Below w.heap.size w w') ∨
  (crowd (add r x) = false ∧ ∃ v', e = .returned (.tuple #[.agg (gv (add r x) v'), .int .i64 ((r.c.length : Nat) : Int), .int .i64 0]) ∧ RL w' w.heap.size nm (add r x) v' ∧ Below w.heap.size w w')

theorem gv_set1 (r : Rg) (u : Vr) (x : Cr) (A' : Option Addr) (c' : Nat) : (gv r u).setIfInBounds 1 (.slice A' (r.c.length + 1) c') = gv (add r x) ⟨u.A1, u.c1, A', c'⟩ := by
  simp [gv, add]
theorem own_add {W w6 : World} {B : Nat} {nm : ByteArray} {r : Rg} {u : Vr} {o : Obj} {x : Cr} {A' : Option Addr} {c' : Nat} (h : Own W B nm r u) (hgr : (W.alloc o).grownBy w6 (Value.slice u.A2 r.c.length u.c2).ownBlock)
    (hown : w6.ownsRow B 29 5 (.slice A' (r.c.length + 1) c') (r.c.length + 1) (kv (r.c ++ [x]))) : RL w6 B nm (add r x) ⟨u.A1, u.c1, A', c'⟩ := by
  have h1 := row_of_own hown
  have e : (r.c ++ [x]).length = r.c.length + 1 := by simp
  exact ⟨row_of_own (kept_ne (h.o1.alloc o) hgr (fun g hg => own_ne h.o2 h.o1 (by decide) g hg)), by rw [← e] at h1; exact h1⟩
theorem own_nq {w : World} {B e s n c G : Nat} {A : Option Addr} {xs : List Value} {cs : Array Value} {t : TypeId} {fr : Nat × Nat} (h : w.ownsRow B e s (.slice A n c) n xs) (hJ : w.heap[G]? = some (.cells cs t fr)) (hne : e ≠ t) : ∀ b off, A = some ⟨b, off, none⟩ → b ≠ G := by
  intro b off hA hb
  rcases h.2 with ⟨hv, _⟩ | ⟨g, cap, cur, hv, _, hh, _⟩
  · rw [hA] at hv; cases hv
  · rw [hA] at hv
    cases hv
    subst hb
    rw [hJ] at hh
    injection hh with q
    injection q with _ q2
    exact hne q2.symm
theorem add_row {W w6 : World} {B G : Nat} {nm : ByteArray} {r : Rg} {u : Vr} {o : Obj} {x : Cr} {A' : Option Addr} {c' : Nat} {cs0 : Array Value} (h : Own W B nm r u) (hgr : (W.alloc o).grownBy w6 (Value.slice u.A2 r.c.length u.c2).ownBlock)
    (hown : w6.ownsRow B 29 5 (.slice A' (r.c.length + 1) c') (r.c.length + 1) (kv (r.c ++ [x]))) (hJ : w6.heap[G]? = some (.cells cs0 26 (0, 0))) (cs : Array Value) : RL (w6.setRow G cs) B nm (add r x) ⟨u.A1, u.c1, A', c'⟩ := by
  have h1 := own_add (x := x) h hgr hown
  have o1 := kept_ne (h.o1.alloc o) hgr (fun g hg => own_ne h.o2 h.o1 (by decide) g hg)
  exact ⟨h1.r1.setq (fun b off _ hA => own_nq o1 hJ (by decide) b off hA) cs, h1.r2.setq (fun b off _ hA => own_nq hown hJ (by decide) b off hA) cs⟩
theorem set1_row {W : World} {g : Nat} {r : Rg} {u : Vr} (h : W.heap[g]? = some (.cells (gv r u) 26 (0, 0))) (x : Cr) (A' : Option Addr) (c' : Nat) : W.setCell ⟨g, 1, none⟩ (.slice A' (r.c.length + 1) c') = W.setRow g (gv (add r x) ⟨u.A1, u.c1, A', c'⟩) := by
  rw [setCell_eq_setRow _ _ _ _ _ _ _ h, gv_set1]

set_option maxRecDepth 100000 in
set_option maxHeartbeats 2000000 in
theorem issue_any (B : Nat) (nm : ByteArray) (r : Rg) (v : Vr) (x : Cr) (w : World) (hr : RL w B nm r v) (hn : Nm nm) (hw : Wf r) (hx : Cw r x) (h0 : crowd r = false) (h24 : r.c.length < 24) :
    Calls Try.prog 31 #[.agg (gv r v), .agg (kc x)] w (IsPost nm r x w) := by
  obtain ⟨-, a1, a2, a3, hb⟩ := boxes3 w (.cells (gv r v) 26) (.cells (kc x) 29) (.cells zG 26)
  have A1 := Lib.hid a1
  have A2 := Lib.hid a2
  have A3 := Lib.hid a3
  have HB := Lib.hid hb
  have n1 := hw.n1
  have HC := Lib.hid hr
  have HCK := Lib.hid (fun w' (hc : RL w' B nm r v) => check_any B nm r v w' hc hn hw)
  have HCP := Lib.hid (fun w' (hc : RL w' B nm r v) => copyOf_any B nm r v w' hc (by omega) (by omega))
  have HC2 := Lib.hid (fun B' v' w' (hc : RL w' B' nm (add r x) v') => check_any B' nm (add r x) v' w' hc hn (hw.add hx h24))
  rw [h0] at HCK
  simp only [gv] at HCK HCP
  obtain ⟨i0, hi1, hz0, hz1, hz2⟩ := info_parts zinfo29
  have HI := Lib.hid hi1
  have HI0 := Lib.hid hz0
  have HI1 := Lib.hid hz1
  have HI2 := Lib.hid hz2
  have e24 : ((r.c.length : Int) == 24) = false := beq_eq_false_iff_ne.2 (by omega)
  have f24 : decide ((24 : Int) ≤ (r.c.length : Int)) = false := decide_eq_false (by omega)
  clear hi1 hz0 hz1 hz2 a1 a2 a3 hb hr hw hx h0
  unfold zG at A1 A2 A3 HB
  obtain ⟨g0, g1⟩ := gvCells A1.out
  go_enter Try.func31, Try.ntmps31
  go_wp2_with fail
  refine (HCK.out _ (HC.out.below HB.out)).mono ?_
  rintro e w1 ⟨rfl, hb1⟩
  have B1 := Lib.hid ((hb1.block _ (row_lt A1.out)).trans A1.out)
  have B2 := Lib.hid ((hb1.block _ (row_lt A2.out)).trans A2.out)
  have B3 := Lib.hid ((hb1.block _ (row_lt A3.out)).trans A3.out)
  have HB1 := Lib.hid (HB.out.trans (hb1.mono HB.out.size))
  clear hb1 g0 g1
  obtain ⟨g0, g1⟩ := gvCells B1.out
  go_wp2_with fail
  refine (HCP.out _ (HC.out.below HB1.out)).mono ?_
  rintro e w3 ⟨u, rfl, hown, hb3⟩
  have D1 := Lib.hid ((hb3.block _ (row_lt B1.out)).trans B1.out)
  have D2 := Lib.hid ((hb3.block _ (row_lt B2.out)).trans B2.out)
  have D3 := Lib.hid ((hb3.block _ (row_lt B3.out)).trans B3.out)
  have l1 : w.heap.size + 2 < w1.heap.size := row_lt B3.out
  have l3 : w1.heap.size ≤ w3.heap.size := hb3.size
  have HB3 := Lib.hid (HB1.out.trans (hb3.mono HB1.out.size))
  have HOWN := Lib.hid hown
  clear hb3 hown g0 g1
  have hbx := box_below w3 (.cells (gv r u) 26)
  have E1 := Lib.hid ((hbx.block _ (row_lt D1.out)).trans D1.out)
  have E2 := Lib.hid ((hbx.block _ (row_lt D2.out)).trans D2.out)
  have E3 := Lib.hid ((hbx.block _ (row_lt D3.out)).trans D3.out)
  have EG := Lib.hid (heap_alloc_new w3 (.cells (gv r u) 26))
  have HB4 := Lib.hid (HB3.out.trans (hbx.mono HB3.out.size))
  have HO4 := Lib.hid (HOWN.out.below hbx)
  have lG := row_lt EG.out
  clear hbx
  generalize hW4 : w3.alloc (.cells (gv r u) 26) = W4 at *
  have HW4 := Lib.hid hW4
  clear hW4
  obtain ⟨g0, g1⟩ := gvCells EG.out
  obtain ⟨y0, y1, y2, y3, y4⟩ := kcCells E2.out
  have NEWS := Lib.hid (World.news_of_block (heap_alloc_new W4 (.cells (kc x) 29)))
  have HL4 := Lib.hid (show W4.heap.size = W4.heap.size from rfl)
  have hbs : w1.heap.size ≤ (W4.alloc (.cells (kc x) 29)).heap.size := by simp; omega
  go_wp2_with (first
    | (with_reducible (show wpList _ _ _ (⟨none, .store 26 (.tmp 9) (.tmp 24), _, _, _, _⟩ :: _) _ _); refine wpList_store_row (o := ⟨none, .store 26 (.tmp 9) (.tmp 24), _, _, _, _⟩) rfl 26 (.tmp 9) (.tmp 24) rfl w3.heap.size (gv r u) rfl rfl 26 zG (heap_alloc_new _ _) (info26 _ _) rfl (gv_one _ _) ?_; rw [new_set, HW4.out])
    | (at_builtin; refine wpList_append_own _ rfl (.tmp 26) (.tmp 28) 24 rfl w1.heap.size 29 i0 (.agg #[.int .i64 0, .int .u64 0, .int .i64 0, .int .i64 0, .int .i64 0]) 5 40 Try.underlying24 HI.out HI0.out HI1.out HI2.out rfl (by decide) (.slice u.A2 r.c.length u.c2) r.c.length (kv r.c) rfl (HO4.out.o2.alloc _) ⟨W4.heap.size, 0, none⟩ 1 1 (kc x).toList rfl rfl NEWS.out (by simp [kc, Value.oneCell']) (by unfold maxLen; omega) (by omega) hbs ?_; intro v' w6 hown hgr _; obtain ⟨A', c', rfl⟩ := own_form hown; have J1 := (hgr.block w3.heap.size (by simp; omega) (fun e => by have := (HOWN.out.o2.lt _ e.symm).2; omega)).trans ((heap_alloc_old _ _ lG).trans EG.out); have J3 := Lib.hid ((hgr.block (w.heap.size + 2) (by simp; omega) (fun e => by have := (HOWN.out.o2.lt _ e.symm).1; omega)).trans ((heap_alloc_old _ _ (row_lt E3.out)).trans E3.out)); have J0 := Lib.hid ((hgr.block w.heap.size (by simp; omega) (fun e => by have := (HOWN.out.o2.lt _ e.symm).1; omega)).trans ((heap_alloc_old _ _ (row_lt E1.out)).trans E1.out)); have fd1 : w6.frozen? ⟨w3.heap.size, 1, none⟩ = false := frozen_of_row _ _ _ _ _ J1; obtain ⟨z0, z1⟩ := gvCells J1; have HB6 := ((HB4.out.trans ((box_below W4 (.cells (kc x) 29)).mono HB4.out.size)).grown hgr (Nat.le_trans HB4.out.size (by simp)) (fun g e => by have := (HOWN.out.o2.lt _ e).1; omega)); obtain ⟨W7, hW7⟩ : ∃ W7, w6.setCell ⟨w3.heap.size, 1, none⟩ (.slice A' (r.c.length + 1) c') = W7 := ⟨_, rfl⟩; have e7 := hW7.symm.trans (set1_row J1 x A' c'); have K1 := Lib.hid (show W7.heap[w3.heap.size]? = some (.cells (gv (add r x) ⟨u.A1, u.c1, A', c'⟩) 26 (0, 0)) from (by rw [e7]; exact setRow_heap _ _ _ _ _ _ J1)); have K3 := Lib.hid (show W7.heap[w.heap.size + 2]? = some (.cells zG 26 (0, 0)) from (by rw [e7]; exact (setRow_other _ _ _ _ (by omega)).trans J3.out)); have K0 := Lib.hid (show W7.heap[w.heap.size]? = some (.cells (gv r v) 26 (0, 0)) from (by rw [e7]; exact (setRow_other _ _ _ _ (by omega)).trans J0.out)); have HB7 := Lib.hid (show Below w.heap.size w W7 from (by rw [e7]; exact below_setRow HB6 (by omega) _)); have HR7 := Lib.hid (show RL W7 w1.heap.size nm (add r x) ⟨u.A1, u.c1, A', c'⟩ from (by rw [e7]; exact add_row HO4.out hgr (by rw [kv_snoc]; exact hown) J1 _)); clear e7 hown hgr J1 HB6)
    | (with_reducible (show wpList _ _ _ (⟨some 31, .load 26 (.tmp 9), _, _, _, _⟩ :: _) _ _); refine wpList_load_row (o := ⟨some 31, .load 26 (.tmp 9), _, _, _, _⟩) rfl 26 (.tmp 9) rfl w3.heap.size rfl 26 (gv (add r x) ⟨u.A1, u.c1, A', c'⟩) (0, 0) _ K1.out Try.underlying26 rfl (info26 _ _) ?_))
  clear g0 g1 y0 y1 y2 y3 y4 z0 z1 fd1 hW7
  refine (HC2.out _ _ _ HR7.out).mono ?_
  rintro e w8 ⟨rfl, hb8⟩
  have B7 := Lib.hid (show Below w.heap.size w W7 from HB7.out)
  have K18 := Lib.hid ((hb8.block _ (row_lt K1.out)).trans K1.out)
  have K38 := Lib.hid ((hb8.block _ (row_lt K3.out)).trans K3.out)
  have HB8 := Lib.hid (B7.out.trans (hb8.mono B7.out.size))
  have HR8 := Lib.hid (HR7.out.below hb8)
  clear hb8
  obtain ⟨q0, q1, q2, q3⟩ := zgCells (g := w.heap.size + 1 + 1) K38.out
  cases hcr : crowd (add r x) with
  | true =>
    have HCR := Lib.hid hcr
    clear hcr
    go_wp2_with fail
    all_goals
      rw [set2row (g := w.heap.size + 1 + 1) K38.out rfl]
      refine bodyPost_ret (v := .tuple #[.agg zG, .int .i64 0, .int .i64 31]) (results_cell_row3 (fn := Try.f31) (p := 4) (u := 5) (u2 := 6) rfl _ _ (w.heap.size + 1 + 1) 26 zG (0, 0) _ rfl (setRow_heap _ _ _ _ _ _ K38.out) Try.underlying26 rfl infozG) rfl (.inl ⟨HCR.out, rfl, below_setRow HB8.out (by omega) _⟩)
  | false =>
    have HCR := Lib.hid hcr
    clear hcr
    go_wp2_with (first
      | (with_reducible (show wpList _ _ _ (⟨some 37, .load 26 (.tmp 9), _, _, _, _⟩ :: _) _ _); refine wpList_load_row (o := ⟨some 37, .load 26 (.tmp 9), _, _, _, _⟩) rfl 26 (.tmp 9) rfl w3.heap.size rfl 26 (gv (add r x) ⟨u.A1, u.c1, A', c'⟩) (0, 0) _ K18.out Try.underlying26 rfl (info26 _ _) ?_)
      | (with_reducible (show wpList _ _ _ (⟨none, .store 26 (.tmp 4) (.tmp 37), _, _, _, _⟩ :: _) _ _); refine wpList_store_row (o := ⟨none, .store 26 (.tmp 4) (.tmp 37), _, _, _, _⟩) rfl 26 (.tmp 4) (.tmp 37) rfl (w.heap.size + 1 + 1) (gv (add r x) ⟨u.A1, u.c1, A', c'⟩) rfl rfl 26 zG K38.out (info26 _ _) rfl (gv_one _ _) ?_))
    refine bodyPost_ret (v := .tuple #[.agg (gv (add r x) ⟨u.A1, u.c1, A', c'⟩), .int .i64 ((r.c.length : Nat) : Int), .int .i64 0]) (results_cell_row3 (fn := Try.f31) (p := 4) (u := 5) (u2 := 6) rfl _ _ (w.heap.size + 1 + 1) 26 (gv (add r x) ⟨u.A1, u.c1, A', c'⟩) (0, 0) _ rfl (setRow_heap _ _ _ _ _ _ K38.out) Try.underlying26 rfl (info26 _ _)) rfl (.inr ⟨HCR.out, _, rfl, (HR8.out.set (show w.heap.size + 1 + 1 < w1.heap.size by omega) _).base (by omega), below_setRow HB8.out (by omega) _⟩)


set_option maxRecDepth 100000 in
set_option maxHeartbeats 2000000 in
theorem refissue_any (B : Nat) (nm : ByteArray) (r : Rg) (v : Vr) (x : Cr) (w : World) (hr : RL w B nm r v) (hn : Nm nm) (hw : Wf r) (hx : Cw r x) (h0 : crowd r = false) (h24 : r.c.length < 24) :
    Calls Try.prog 32 #[.agg (gv r v), .agg (kc x)] w (IsPost nm r x w) := by
  obtain ⟨-, a1, a2, a3, hb⟩ := boxes3 w (.cells (gv r v) 26) (.cells (kc x) 29) (.cells zG 26)
  have A1 := Lib.hid a1
  have A2 := Lib.hid a2
  have A3 := Lib.hid a3
  have HB := Lib.hid hb
  have n1 := hw.n1
  have HC := Lib.hid hr
  have HCK := Lib.hid (fun w' (hc : RL w' B nm r v) => right_any B nm r v w' hc hn hw)
  have HCP := Lib.hid (fun w' (hc : RL w' B nm r v) => copy_any B nm r v w' hc (by omega) (by omega))
  have HC2 := Lib.hid (fun B' v' w' (hc : RL w' B' nm (add r x) v') => right_any B' nm (add r x) v' w' hc hn (hw.add hx h24))
  rw [h0] at HCK
  simp only [Bool.not_false] at HCK
  simp only [gv] at HCK HCP
  obtain ⟨i0, hi1, hz0, hz1, hz2⟩ := info_parts zinfo29
  have HI := Lib.hid hi1
  have HI0 := Lib.hid hz0
  have HI1 := Lib.hid hz1
  have HI2 := Lib.hid hz2
  have e24 : ((r.c.length : Int) == 24) = false := beq_eq_false_iff_ne.2 (by omega)
  have f24 : decide ((24 : Int) ≤ (r.c.length : Int)) = false := decide_eq_false (by omega)
  clear hi1 hz0 hz1 hz2 a1 a2 a3 hb hr hw hx h0
  unfold zG at A1 A2 A3 HB
  obtain ⟨g0, g1⟩ := gvCells A1.out
  go_enter Try.func32, Try.ntmps32
  go_wp2_with fail
  refine (HCK.out _ (HC.out.below HB.out)).mono ?_
  rintro e w1 ⟨rfl, hb1⟩
  have B1 := Lib.hid ((hb1.block _ (row_lt A1.out)).trans A1.out)
  have B2 := Lib.hid ((hb1.block _ (row_lt A2.out)).trans A2.out)
  have B3 := Lib.hid ((hb1.block _ (row_lt A3.out)).trans A3.out)
  have HB1 := Lib.hid (HB.out.trans (hb1.mono HB.out.size))
  clear hb1 g0 g1
  obtain ⟨g0, g1⟩ := gvCells B1.out
  go_wp2_with fail
  refine (HCP.out _ (HC.out.below HB1.out)).mono ?_
  rintro e w3 ⟨u, rfl, hown, hb3⟩
  have D1 := Lib.hid ((hb3.block _ (row_lt B1.out)).trans B1.out)
  have D2 := Lib.hid ((hb3.block _ (row_lt B2.out)).trans B2.out)
  have D3 := Lib.hid ((hb3.block _ (row_lt B3.out)).trans B3.out)
  have l1 : w.heap.size + 2 < w1.heap.size := row_lt B3.out
  have l3 : w1.heap.size ≤ w3.heap.size := hb3.size
  have HB3 := Lib.hid (HB1.out.trans (hb3.mono HB1.out.size))
  have HOWN := Lib.hid hown
  clear hb3 hown g0 g1
  have hbx := box_below w3 (.cells (gv r u) 26)
  have E1 := Lib.hid ((hbx.block _ (row_lt D1.out)).trans D1.out)
  have E2 := Lib.hid ((hbx.block _ (row_lt D2.out)).trans D2.out)
  have E3 := Lib.hid ((hbx.block _ (row_lt D3.out)).trans D3.out)
  have EG := Lib.hid (heap_alloc_new w3 (.cells (gv r u) 26))
  have HB4 := Lib.hid (HB3.out.trans (hbx.mono HB3.out.size))
  have HO4 := Lib.hid (HOWN.out.below hbx)
  have lG := row_lt EG.out
  clear hbx
  generalize hW4 : w3.alloc (.cells (gv r u) 26) = W4 at *
  have HW4 := Lib.hid hW4
  clear hW4
  obtain ⟨g0, g1⟩ := gvCells EG.out
  obtain ⟨y0, y1, y2, y3, y4⟩ := kcCells E2.out
  have NEWS := Lib.hid (World.news_of_block (heap_alloc_new W4 (.cells (kc x) 29)))
  have HL4 := Lib.hid (show W4.heap.size = W4.heap.size from rfl)
  have hbs : w1.heap.size ≤ (W4.alloc (.cells (kc x) 29)).heap.size := by simp; omega
  go_wp2_with (first
    | (with_reducible (show wpList _ _ _ (⟨none, .store 26 (.tmp 7) (.tmp 18), _, _, _, _⟩ :: _) _ _); refine wpList_store_row (o := ⟨none, .store 26 (.tmp 7) (.tmp 18), _, _, _, _⟩) rfl 26 (.tmp 7) (.tmp 18) rfl w3.heap.size (gv r u) rfl rfl 26 zG (heap_alloc_new _ _) (info26 _ _) rfl (gv_one _ _) ?_; rw [new_set, HW4.out])
    | (at_builtin; refine wpList_append_own _ rfl (.tmp 20) (.tmp 22) 24 rfl w1.heap.size 29 i0 (.agg #[.int .i64 0, .int .u64 0, .int .i64 0, .int .i64 0, .int .i64 0]) 5 40 Try.underlying24 HI.out HI0.out HI1.out HI2.out rfl (by decide) (.slice u.A2 r.c.length u.c2) r.c.length (kv r.c) rfl (HO4.out.o2.alloc _) ⟨W4.heap.size, 0, none⟩ 1 1 (kc x).toList rfl rfl NEWS.out (by simp [kc, Value.oneCell']) (by unfold maxLen; omega) (by omega) hbs ?_; intro v' w6 hown hgr _; obtain ⟨A', c', rfl⟩ := own_form hown; have J1 := (hgr.block w3.heap.size (by simp; omega) (fun e => by have := (HOWN.out.o2.lt _ e.symm).2; omega)).trans ((heap_alloc_old _ _ lG).trans EG.out); have J3 := Lib.hid ((hgr.block (w.heap.size + 2) (by simp; omega) (fun e => by have := (HOWN.out.o2.lt _ e.symm).1; omega)).trans ((heap_alloc_old _ _ (row_lt E3.out)).trans E3.out)); have J0 := Lib.hid ((hgr.block w.heap.size (by simp; omega) (fun e => by have := (HOWN.out.o2.lt _ e.symm).1; omega)).trans ((heap_alloc_old _ _ (row_lt E1.out)).trans E1.out)); have fd1 : w6.frozen? ⟨w3.heap.size, 1, none⟩ = false := frozen_of_row _ _ _ _ _ J1; obtain ⟨z0, z1⟩ := gvCells J1; have HB6 := ((HB4.out.trans ((box_below W4 (.cells (kc x) 29)).mono HB4.out.size)).grown hgr (Nat.le_trans HB4.out.size (by simp)) (fun g e => by have := (HOWN.out.o2.lt _ e).1; omega)); obtain ⟨W7, hW7⟩ : ∃ W7, w6.setCell ⟨w3.heap.size, 1, none⟩ (.slice A' (r.c.length + 1) c') = W7 := ⟨_, rfl⟩; have e7 := hW7.symm.trans (set1_row J1 x A' c'); have K1 := Lib.hid (show W7.heap[w3.heap.size]? = some (.cells (gv (add r x) ⟨u.A1, u.c1, A', c'⟩) 26 (0, 0)) from (by rw [e7]; exact setRow_heap _ _ _ _ _ _ J1)); have K3 := Lib.hid (show W7.heap[w.heap.size + 2]? = some (.cells zG 26 (0, 0)) from (by rw [e7]; exact (setRow_other _ _ _ _ (by omega)).trans J3.out)); have K0 := Lib.hid (show W7.heap[w.heap.size]? = some (.cells (gv r v) 26 (0, 0)) from (by rw [e7]; exact (setRow_other _ _ _ _ (by omega)).trans J0.out)); have HB7 := Lib.hid (show Below w.heap.size w W7 from (by rw [e7]; exact below_setRow HB6 (by omega) _)); have HR7 := Lib.hid (show RL W7 w1.heap.size nm (add r x) ⟨u.A1, u.c1, A', c'⟩ from (by rw [e7]; exact add_row HO4.out hgr (by rw [kv_snoc]; exact hown) J1 _)); clear e7 hown hgr J1 HB6)
    | (with_reducible (show wpList _ _ _ (⟨some 25, .load 26 (.tmp 7), _, _, _, _⟩ :: _) _ _); refine wpList_load_row (o := ⟨some 25, .load 26 (.tmp 7), _, _, _, _⟩) rfl 26 (.tmp 7) rfl w3.heap.size rfl 26 (gv (add r x) ⟨u.A1, u.c1, A', c'⟩) (0, 0) _ K1.out Try.underlying26 rfl (info26 _ _) ?_))
  clear g0 g1 y0 y1 y2 y3 y4 z0 z1 fd1 hW7
  refine (HC2.out _ _ _ HR7.out).mono ?_
  rintro e w8 ⟨rfl, hb8⟩
  have B7 := Lib.hid (show Below w.heap.size w W7 from HB7.out)
  have K18 := Lib.hid ((hb8.block _ (row_lt K1.out)).trans K1.out)
  have K38 := Lib.hid ((hb8.block _ (row_lt K3.out)).trans K3.out)
  have K08 := Lib.hid ((hb8.block _ (row_lt K0.out)).trans K0.out)
  have HB8 := Lib.hid (B7.out.trans (hb8.mono B7.out.size))
  have HR8 := Lib.hid (HR7.out.below hb8)
  clear hb8
  obtain ⟨q0, q1, q2, q3⟩ := zgCells (g := w.heap.size + 1 + 1) K38.out
  cases hcr : crowd (add r x) with
  | true =>
    have HCR := Lib.hid hcr
    clear hcr
    go_wp2_with fail
    all_goals
      rw [set2row (g := w.heap.size + 1 + 1) K38.out rfl]
      refine bodyPost_ret (v := .tuple #[.agg zG, .int .i64 0, .int .i64 31]) (results_cell_row3 (fn := Try.f32) (p := 4) (u := 5) (u2 := 6) rfl _ _ (w.heap.size + 1 + 1) 26 zG (0, 0) _ rfl (setRow_heap _ _ _ _ _ _ K38.out) Try.underlying26 rfl infozG) rfl (.inl ⟨HCR.out, rfl, below_setRow HB8.out (by omega) _⟩)
  | false =>
    have HCR := Lib.hid hcr
    clear hcr
    have hal : (add r x).c.length = r.c.length + 1 := add_len r x
    obtain ⟨m0, m1⟩ := gvCells K18.out
    obtain ⟨p0, p1⟩ := gvCells K08.out
    have m0' : w8.drew.cell? ⟨w3.heap.size, 0, none⟩ = some (.slice u.A1 (add r x).s.length u.c1) := m0
    have m1' : w8.drew.cell? ⟨w3.heap.size, 1, none⟩ = some (.slice A' (add r x).c.length c') := m1
    have p1' : w8.drew.cell? ⟨w.heap.size, 1, none⟩ = some (.slice v.A2 r.c.length v.c2) := p1
    go_wp2_with fail
    go_region
    all_goals
      go_wp2_with fail
      rw [set2row (g := w.heap.size + 1 + 1) K38.out rfl, show (#[.slice u.A1 (add r x).s.length u.c1, .slice A' (r.c.length + 1) c'] : Array Value) = gv (add r x) ⟨u.A1, u.c1, A', c'⟩ by rw [gv, hal]]
      refine bodyPost_ret (v := .tuple #[.agg (gv (add r x) ⟨u.A1, u.c1, A', c'⟩), .int .i64 ((r.c.length : Nat) : Int), .int .i64 0]) (results_cell_row3 (fn := Try.f32) (p := 4) (u := 5) (u2 := 6) rfl _ _ (w.heap.size + 1 + 1) 26 (gv (add r x) ⟨u.A1, u.c1, A', c'⟩) (0, 0) _ rfl (show _ = _ from setRow_heap _ _ _ _ _ _ K38.out) Try.underlying26 rfl (info26 _ _)) rfl (.inr ⟨HCR.out, _, rfl, ?_, ?_⟩)
      · first
          | exact ((HR8.out.set (show w.heap.size + 1 + 1 < w1.heap.size by omega) _).base (by omega)).drew
          | exact ((HR8.out.set (show w.heap.size + 1 + 1 < w1.heap.size by omega) _).base (by omega))
      · first
          | exact (below_setRow HB8.out (by omega) _).drew
          | exact (below_setRow HB8.out (by omega) _)


end Go.Proofs.Ytablgpcgfogfoaa.Rg
