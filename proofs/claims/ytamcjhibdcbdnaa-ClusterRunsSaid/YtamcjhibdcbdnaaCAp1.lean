import Derived.Test.YtamcjhibdcbdnaaCApl
namespace Go.Proofs.Ytamcjhibdcbdnaa.Cl
open Go.RowKit
open Go.Proofs.Ytamcjhibdcbdnaa.Tp
set_option linter.unusedVariables false

theorem nq_own {w : World} {B n k e s G t : Nat} {A : Option Addr} {xs : List Value} {cs : Array Value} (h : w.ownsRow B e s (.slice A n k) n xs) (hG : w.heap[G]? = some (.cells cs t (0, 0))) (ht : t ≠ e) : ∀ b off, 0 < n → A = some ⟨b, off, none⟩ → b ≠ G := by
  intro b off hn hA hb
  subst hb
  rcases h.2 with ⟨e, h0⟩ | ⟨g, cap, cur, e, hb, hh, _⟩
  · rw [hA] at e; cases e
  · rw [hA] at e
    cases e
    rw [hG] at hh
    injection hh with hh
    injection hh with _ h2 _
    exact ht h2

set_option maxRecDepth 100000 in
set_option maxHeartbeats 1000000 in
theorem ap1 (m B : Nat) (c : Cl) (v : Vl) (b : Nat) (hb3 : b ≤ 3) (w : World) (h : CL w B c v) (hok : Ok m c) (hm : m ≤ 90) :
    Calls Try.prog 24 #[.agg (cv c v), .agg (ec 1 0 0 b)] w (RPost ⟨c.f, c.s ++ [b], c.r, c.p⟩ w) := by
  have s1 := hok.s1
  have s2 := hok.s2
  have r1 := hok.r1
  have p2 := hok.p2
  have e121 : ((c.s.length : Int) == 121) = false := beq_eq_false_iff_ne.2 (by omega)
  have e120 : ((c.p.length : Int) == 120) = false := beq_eq_false_iff_ne.2 (by omega)
  have e121' : ¬ ((c.s.length : Int) = 121) := by omega
  have e120' : ¬ ((c.p.length : Int) = 120) := by omega
  have HOK := Lib.hid hok
  have HC := Lib.hid h
  have HGOOD := Lib.hid (show Good c ⟨1, 0, 0, b⟩ from .inl ⟨rfl, rfl, rfl, hb3⟩)
  have a1 := (heap_alloc_old ((w.alloc (.cells (cv c v) 25)).alloc (.cells (ec 1 0 0 b) 27)) (.cells zC 25) (by simp; omega)).trans ((heap_alloc_old (w.alloc (.cells (cv c v) 25)) (.cells (ec 1 0 0 b) 27) (by simp)).trans (heap_alloc_new w (.cells (cv c v) 25)))
  have a2 : (((w.alloc (.cells (cv c v) 25)).alloc (.cells (ec 1 0 0 b) 27)).alloc (.cells zC 25)).heap[w.heap.size + 1]? = some (.cells (ec 1 0 0 b) 27 (0, 0)) := by
    have := heap_alloc_new (w.alloc (.cells (cv c v) 25)) (.cells (ec 1 0 0 b) 27)
    rw [show (w.alloc (.cells (cv c v) 25)).heap.size = w.heap.size + 1 by simp] at this
    exact (heap_alloc_old _ _ (by simp)).trans this
  have a3 : (((w.alloc (.cells (cv c v) 25)).alloc (.cells (ec 1 0 0 b) 27)).alloc (.cells zC 25)).heap[w.heap.size + 1 + 1]? = some (.cells zC 25 (0, 0)) := by
    have := heap_alloc_new ((w.alloc (.cells (cv c v) 25)).alloc (.cells (ec 1 0 0 b) 27)) (.cells zC 25)
    simpa using this
  have hb : Below w.heap.size w (((w.alloc (.cells (cv c v) 25)).alloc (.cells (ec 1 0 0 b) 27)).alloc (.cells zC 25)) := (((Below.refl _ w).alloc (Nat.le_refl _) _).alloc (by simp) _).alloc (by simp; omega) _
  have A1 := Lib.hid a1
  have A2 := Lib.hid a2
  have A3 := Lib.hid a3
  have HB := Lib.hid hb
  clear h hok a1 a2 a3 hb
  go_enter Try.func24, Try.ntmps24
  unfold zC at A1 A2 A3 HB
  obtain ⟨c0, c1, c2, c3⟩ := cvCells _ _ _ _ _ _ A1.out
  obtain ⟨x0, x1, x2, x3⟩ := ecCells A2.out
  have hch : ∀ w', CL w' B c v → Calls Try.prog 21 #[.agg #[.bool c.f, .slice v.A1 c.s.length v.c1, .slice v.A2 c.r.length v.c2, .slice v.A3 c.p.length v.c3]] w' fun e w'' => e = .returned (.int .i64 0) ∧ Below w'.heap.size w' w'' := fun w' hc => check_any m B c v w' hc HOK.out (by omega)
  have hfi : ∀ w', Calls Try.prog 64 #[.agg #[.bool c.f, .slice v.A1 c.s.length v.c1, .slice v.A2 c.r.length v.c2, .slice v.A3 c.p.length v.c3], .agg #[.int .i64 1, .int .i64 0, .int .i64 0, .int .i64 (b : Int)]] w' fun e w'' => e = .returned (.bool true) ∧ Below w'.heap.size w' w'' := fun w' => fits_any c v ⟨1, 0, 0, b⟩ w' r1 HGOOD.out
  have hco : ∀ w', CL w' B c v → Calls Try.prog 65 #[.agg #[.bool c.f, .slice v.A1 c.s.length v.c1, .slice v.A2 c.r.length v.c2, .slice v.A3 c.p.length v.c3]] w' fun e w'' => ∃ v', e = .returned (.agg (cv c v')) ∧ Own w'' w'.heap.size c v' ∧ Below w'.heap.size w' w'' := fun w' hc => copyOf_any m B c v w' hc HOK.out (by omega)
  have HCH := Lib.hid hch
  have HFI := Lib.hid hfi
  have HCO := Lib.hid hco
  clear hch hfi hco
  go_wp2_with fail
  refine (HCH.out _ (HC.out.below HB.out)).mono ?_
  rintro e w1 ⟨rfl, hb1⟩
  have B1 := Lib.hid ((hb1.block _ (row_lt A1.out)).trans A1.out)
  have B2 := Lib.hid ((hb1.block _ (row_lt A2.out)).trans A2.out)
  have B3 := Lib.hid ((hb1.block _ (row_lt A3.out)).trans A3.out)
  have HB1 := Lib.hid (HB.out.trans (hb1.mono HB.out.size))
  clear hb1 c0 c1 c2 c3 x0 x1 x2 x3
  obtain ⟨c0, c1, c2, c3⟩ := cvCells _ _ _ _ _ _ B1.out
  obtain ⟨x0, x1, x2, x3⟩ := ecCells B2.out
  go_wp2_with fail
  refine (HFI.out _).mono ?_
  rintro e w2 ⟨rfl, hb2⟩
  have C1 := Lib.hid ((hb2.block _ (row_lt B1.out)).trans B1.out)
  have C2 := Lib.hid ((hb2.block _ (row_lt B2.out)).trans B2.out)
  have C3 := Lib.hid ((hb2.block _ (row_lt B3.out)).trans B3.out)
  have HB2 := Lib.hid (HB1.out.trans (hb2.mono HB1.out.size))
  clear hb2 c0 c1 c2 c3 x0 x1 x2 x3
  obtain ⟨c0, c1, c2, c3⟩ := cvCells _ _ _ _ _ _ C1.out
  obtain ⟨x0, x1, x2, x3⟩ := ecCells C2.out
  go_wp2_with fail
  refine (HCO.out _ (HC.out.below HB2.out)).mono ?_
  rintro e w3 ⟨u, rfl, hown, hb3⟩
  have D1 := Lib.hid ((hb3.block _ (row_lt C1.out)).trans C1.out)
  have D2 := Lib.hid ((hb3.block _ (row_lt C2.out)).trans C2.out)
  have D3 := Lib.hid ((hb3.block _ (row_lt C3.out)).trans C3.out)
  have HB3 := Lib.hid (HB2.out.trans (hb3.mono HB2.out.size))
  have HOWN := Lib.hid hown
  have HL3 := Lib.hid hb3.size
  clear hb3 hown c0 c1 c2 c3 x0 x1 x2 x3
  have l2 : w.heap.size + 1 + 1 < w2.heap.size := row_lt C3.out
  have l3 : w2.heap.size ≤ w3.heap.size := HL3.out
  have E1 := Lib.hid ((heap_alloc_old w3 (.cells (cv c u) 25) (row_lt D1.out)).trans D1.out)
  have E2 := Lib.hid ((heap_alloc_old w3 (.cells (cv c u) 25) (row_lt D2.out)).trans D2.out)
  have E3 := Lib.hid ((heap_alloc_old w3 (.cells (cv c u) 25) (row_lt D3.out)).trans D3.out)
  have EG := Lib.hid (heap_alloc_new w3 (.cells (cv c u) 25))
  have HB4 := Lib.hid (HB3.out.trans ((box_below w3 (.cells (cv c u) 25)).mono HB3.out.size))
  have HO4 := Lib.hid (HOWN.out.below (box_below w3 (.cells (cv c u) 25)))
  have lG := row_lt EG.out
  generalize hW4 : w3.alloc (.cells (cv c u) 25) = W4 at *
  have HW4 := Lib.hid hW4
  clear hW4
  obtain ⟨c0, c1, c2, c3⟩ := cvCells _ _ _ _ _ _ E1.out
  obtain ⟨x0, x1, x2, x3⟩ := ecCells E2.out
  obtain ⟨d0, d1, d2, d3⟩ := cvCells _ _ _ _ _ _ EG.out
  obtain ⟨i0, hi, hz0, hz1, hz2⟩ := info_parts zinfo3
  have HI := Lib.hid hi
  have HI0 := Lib.hid hz0
  have HI1 := Lib.hid hz1
  have HI2 := Lib.hid hz2
  have hsn : c.s.length ≤ 1000 := by omega
  clear hi hz0 hz1 hz2
  go_wp2_with (first
    | (with_reducible (show wpList _ _ _ (⟨none, .store 25 (.tmp 6) (.tmp 39), _, _, _, _⟩ :: _) _ _); refine wpList_store_row (o := ⟨none, .store 25 (.tmp 6) (.tmp 39), _, _, _, _⟩) rfl 25 (.tmp 6) (.tmp 39) rfl w3.heap.size (cv c u) rfl rfl 25 zC (heap_alloc_new _ _) (info25 _ _) rfl (cv_one _ _) ?_; rw [new_set, HW4.out])
    | (at_builtin; refine wpList_append_own _ rfl (.tmp 45) (.tmp 48) 22 rfl w2.heap.size 3 i0 (.int .i64 0) 1 8 Try.underlying22 HI.out HI0.out HI1.out HI2.out rfl (by decide) _ c.s.length (iv c.s) rfl (HO4.out.o1.alloc _) ⟨W4.heap.size, 0, none⟩ 1 1 [.int .i64 (b : Int)] rfl rfl ?_ (by simp [Value.oneCell']) (by unfold maxLen; omega) (by omega) (by simp; omega) ?_; (go_loud (first | exact cell_one_new _ _ _)); intro v' w6 hown hgr _; obtain ⟨A', c', rfl⟩ := own_form hown; have HOWN6 := Lib.hid hown; have HGR := Lib.hid hgr; have J1 := (hgr.block w3.heap.size (by simp; omega) (fun e => by have := (HOWN.out.o1.lt _ e.symm).2; omega)).trans ((heap_alloc_old _ _ lG).trans EG.out); have J3 := Lib.hid ((far_block HO4.out.o1 hgr (w.heap.size + 1 + 1) (by omega) (by omega)).trans E3.out); have JG := Lib.hid J1; clear hown hgr d0 d1 d2 d3 x0 x1 x2 x3 c0 c1 c2 c3; obtain ⟨d0, d1, d2, d3⟩ := cvCells _ _ _ _ _ _ J1; have fd1 : w6.frozen? ⟨w3.heap.size, 1, none⟩ = false := frozen_of_row _ _ _ _ _ J1; obtain ⟨W7, hW7⟩ : ∃ W7, w6.setCell ⟨w3.heap.size, 1, none⟩ (.slice A' (c.s.length + 1) c') = W7 := ⟨_, rfl⟩; have e7 : W7 = w6.setRow w3.heap.size (cv ⟨c.f, c.s ++ [b], c.r, c.p⟩ ⟨A', c', u.A2, u.c2, u.A3, u.c3⟩) := (by rw [← hW7, setCell_eq_setRow _ _ _ _ _ _ _ J1, cv_set1 c u b A' c']); have K1 := Lib.hid (show W7.heap[w3.heap.size]? = some (.cells (cv ⟨c.f, c.s ++ [b], c.r, c.p⟩ ⟨A', c', u.A2, u.c2, u.A3, u.c3⟩) 25 (0, 0)) from (by rw [e7]; exact setRow_heap _ _ _ _ _ _ J1)); have K3 := Lib.hid (show W7.heap[w.heap.size + 1 + 1]? = some (.cells zC 25 (0, 0)) from (by rw [e7]; exact (setRow_other _ _ _ _ (by omega)).trans J3.out)); have E7 := Lib.hid e7; clear J1 e7)
    | (refine wpList_load_row rfl 25 (.tmp 6) rfl w3.heap.size rfl 25 (cv ⟨c.f, c.s ++ [b], c.r, c.p⟩ ⟨A', c', u.A2, u.c2, u.A3, u.c3⟩) (0, 0) _ K1.out Try.underlying25 rfl (info25 _ _) ?_)
    | (with_reducible (show wpList _ _ _ (⟨none, .store 25 (.tmp 4) (.tmp 94), _, _, _, _⟩ :: _) _ _); refine wpList_store_row (o := ⟨none, .store 25 (.tmp 4) (.tmp 94), _, _, _, _⟩) rfl 25 (.tmp 4) (.tmp 94) rfl (w.heap.size + 1 + 1) (cv ⟨c.f, c.s ++ [b], c.r, c.p⟩ ⟨A', c', u.A2, u.c2, u.A3, u.c3⟩) rfl rfl 25 zC K3.out (info25 _ _) rfl (cv_one _ _) ?_))
  refine bodyPost_ret (v := .tuple #[.agg (cv ⟨c.f, c.s ++ [b], c.r, c.p⟩ ⟨A', c', u.A2, u.c2, u.A3, u.c3⟩), .int .i64 0]) (results_cell_row2 (fn := Try.f24) (p := 4) (u := 5) rfl _ _ (w.heap.size + 1 + 1) 25 (cv ⟨c.f, c.s ++ [b], c.r, c.p⟩ ⟨A', c', u.A2, u.c2, u.A3, u.c3⟩) (0, 0) _ rfl (setRow_heap _ _ _ _ _ _ K3.out) Try.underlying25 rfl (info25 _ _)) rfl ⟨_, rfl, ?_, ?_⟩
  · rw [E7.out]
    have hq : NQ w3.heap.size ⟨c.f, c.s ++ [b], c.r, c.p⟩ ⟨A', c', u.A2, u.c2, u.A3, u.c3⟩ := ⟨fun b' off _ => nq_own HOWN6.out JG.out (by decide) b' off (by omega), nq_own HO4.out.o2 EG.out (by decide), nq_own HO4.out.o3 EG.out (by decide)⟩
    exact (((own_app1 (b := b) HO4.out HGR.out (by have := HOWN6.out; rw [iv_snoc]; exact this)).setq hq _).set (by omega) _).base (by omega)
  · rw [E7.out]
    exact below_setRow (below_setRow (far_below HB4.out HO4.out.o1 HGR.out (by omega)) (by omega) _) (by omega) _

end Go.Proofs.Ytamcjhibdcbdnaa.Cl
