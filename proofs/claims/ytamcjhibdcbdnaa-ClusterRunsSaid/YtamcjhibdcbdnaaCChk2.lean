import Derived.Test.YtamcjhibdcbdnaaCChk
import Derived.WalkKit
import Derived.Lib.Hide
import Derived.WalkSpells
import Derived.WalkLawsBesides
import Derived.Deep.QuietTactic
import Derived.BigQuiet
import Derived.Laws.Rows
namespace Go.Proofs.Ytamcjhibdcbdnaa.Cl
open Go.RowKit
open Go.Proofs.Ytamcjhibdcbdnaa.Tp
set_option linter.unusedVariables false

set_option maxRecDepth 100000 in
set_option maxHeartbeats 1000000 in
theorem check_any (m B : Nat) (c : Cl) (v : Vl) (w : World) (h : CL w B c v) (hok : Ok m c) (hm : m ≤ 100) :
    Calls Try.prog 21 #[.agg (cv c v)] w fun e w' => e = .returned (.int .i64 0) ∧ Below w.heap.size w w' := by
  obtain ⟨s1, s2, r1, r2, p2, sb, rb, pb⟩ := hok
  have HB0 := Lib.hid (box_below w (.cells (cv c v) 25))
  have HR0 := Lib.hid (heap_alloc_new w (.cells (cv c v) 25))
  have hB : ∀ o, Below w.heap.size w ((w.alloc (.cells (cv c v) 25)).alloc o) := fun o => HB0.out.trans ((box_below _ o).mono HB0.out.size)
  have HBB := Lib.hid hB
  have h0 := h.base (Nat.zero_le B)
  have k1 := fun w' (hw : Below w.heap.size w w') => wset_any c.s v.A1 c.s.length v.c1 (fun _ => false) w' (by omega) (h0.r1.below hw) (fun i hi w2 _ => wset_call _ _ (sb i hi))
  have k2 := fun w' (hw : Below w.heap.size w w') (hg : w'.heap[w.heap.size]? = some (.cells (cv c v) 25 (0, 0))) => wnum_any c.p w.heap.size v.A3 c.p.length v.c3 (fun _ => false) w' (by omega) (h0.r3.below hw) (fun i hi w2 hb2 => wnum_call _ _ c.s.length v.c1 v.A1 _ (pb i hi) (by omega) ((hb2.cell (p := ⟨w.heap.size, 1, none⟩) (row_lt hg)).trans (cvCells _ _ _ _ _ _ hg).2.1))
  have k3 := fun w' (hw : Below w.heap.size w w') (hg : w'.heap[w.heap.size]? = some (.cells (cv c v) 25 (0, 0))) (hk : w'.heap[w.heap.size + 1]? = some (.cells #[.func (.func 59) #[] #[.pointer (some ⟨w.heap.size, 0, none⟩)]] 80 (0, 0))) => wrep_any c.r (w.heap.size + 1) v.A2 c.r.length v.c2 (fun _ => false) w' (by omega) (h0.r2.below hw) (fun i hi w2 hb2 => wrep_call _ w.heap.size _ c.s.length v.c1 _ v.A1 _ (rb i hi) (by omega) ((hb2.cell (p := ⟨w.heap.size + 1, 0, none⟩) (row_lt hk)).trans (by rw [cell_of_row _ _ _ _ _ _ hk]; rfl)) (Nat.lt_of_lt_of_le (row_lt hk) hb2.size) ((hb2.cell (p := ⟨w.heap.size, 1, none⟩) (row_lt hg)).trans (cvCells _ _ _ _ _ _ hg).2.1) (Nat.lt_of_lt_of_le (row_lt hg) hb2.size))
  rw [any_no (fun _ _ => rfl)] at k1 k2 k3
  have K1 := Lib.hid k1
  have K2 := Lib.hid k2
  have K3 := Lib.hid k3
  clear h h0 k1 k2 k3 hB sb rb pb
  have e1 : decide ((c.r.length : Int) < 1) = false := decide_eq_false (by omega)
  have e2 : decide ((5 : Int) < (c.r.length : Int)) = false := decide_eq_false (by omega)
  have e3 : decide ((c.s.length : Int) < 1) = false := decide_eq_false (by omega)
  have e4 : decide ((121 : Int) < (c.s.length : Int)) = false := decide_eq_false (by omega)
  have e5 : decide ((120 : Int) < (c.p.length : Int)) = false := decide_eq_false (by omega)
  have hz : (w.alloc (.cells (cv c v) 25)).heap.size = w.heap.size + 1 := by simp
  have n1 := heap_alloc_new (w.alloc (.cells (cv c v) 25)) (.cells #[.nilFunc] 80)
  have hset := set_new (w.alloc (.cells (cv c v) 25)) #[.nilFunc] 80 0 (.func (.func 59) #[] #[.pointer (some ⟨w.heap.size, 0, none⟩)])
  have n2 := heap_alloc_new (w.alloc (.cells (cv c v) 25)) (.cells #[.func (.func 59) #[] #[.pointer (some ⟨w.heap.size, 0, none⟩)]] 80)
  rw [hz] at n1 n2 hset
  have hset2 : ((w.alloc (.cells (cv c v) 25)).alloc (.cells #[.nilFunc] 80)).setCell ⟨w.heap.size + 1, 0, none⟩ (.func (.func 59) #[] #[.pointer (some ⟨w.heap.size, 0, none⟩)]) = (w.alloc (.cells (cv c v) 25)).alloc (.cells #[.func (.func 59) #[] #[.pointer (some ⟨w.heap.size, 0, none⟩)]] 80) := hset
  clear hset
  have d0 : ((w.alloc (.cells (cv c v) 25)).alloc (.cells #[.nilFunc] 80)).cell? ⟨w.heap.size + 1, 0, none⟩ = some .nilFunc := by rw [cell_of_row _ _ _ _ _ _ n1]; rfl
  have f0 : ((w.alloc (.cells (cv c v) 25)).alloc (.cells #[.nilFunc] 80)).frozen? ⟨w.heap.size + 1, 0, none⟩ = false := frozen_of_row _ _ _ _ _ n1
  have m2 : ((w.alloc (.cells (cv c v) 25)).alloc (.cells #[.func (.func 59) #[] #[.pointer (some ⟨w.heap.size, 0, none⟩)]] 80)).heap[w.heap.size]? = some (.cells (cv c v) 25 (0, 0)) := (heap_alloc_old _ _ (row_lt HR0.out)).trans HR0.out
  have m1 : (w.alloc (.cells (cv c v) 25)).heap[w.heap.size]? = some (.cells (cv c v) 25 (0, 0)) := HR0.out
  obtain ⟨c0, c1, c2, c3⟩ := cvCells _ _ _ _ _ _ m1
  obtain ⟨x0, x1, x2, x3⟩ := cvCells _ _ _ _ _ _ m2
  have N2 := Lib.hid n2
  have M2 := Lib.hid m2
  clear n1 n2 m1 m2 c0 x0 x2 x3 hz
  have hsf : ∀ (W : World) (a : Addr) (fn : Fn) (f ca : Array Value), (store a (.func fn f ca)).run Try.prog W = stored Try.prog W a (.func fn f ca) .plain := fun W a fn f ca => run_store Try.prog W a _ .plain rfl
  go_enter Try.func21, Try.ntmps21
  go_wp2_with fail
  refine (K1.out _ (HBB.out _)).mono ?_
  rintro e w1 ⟨rfl, hb1⟩
  have r1 := (hb1.block w.heap.size (row_lt M2.out)).trans M2.out
  have r2 := (hb1.block (w.heap.size + 1) (row_lt N2.out)).trans N2.out
  have HB1 := Lib.hid ((HBB.out _).trans (hb1.mono (HBB.out _).size))
  obtain ⟨c0, c1, c2, c3⟩ := cvCells _ _ _ _ _ _ r1
  have k0 : w1.cell? ⟨w.heap.size + 1, 0, none⟩ = some (.func (.func 59) #[] #[.pointer (some ⟨w.heap.size, 0, none⟩)]) := by rw [cell_of_row _ _ _ _ _ _ r2]; rfl
  have R1 := Lib.hid r1
  have R2 := Lib.hid r2
  clear r1 r2 hb1 x1 d0 f0 hset2
  go_wp2_with fail
  refine (K2.out _ HB1.out R1.out).mono ?_
  rintro e w2 ⟨rfl, hb2⟩
  have r1 := (hb2.block w.heap.size (row_lt R1.out)).trans R1.out
  have r2 := (hb2.block (w.heap.size + 1) (row_lt R2.out)).trans R2.out
  have HB2 := Lib.hid (HB1.out.trans (hb2.mono HB1.out.size))
  clear c0 c1 c2 c3 k0
  obtain ⟨c0, c1, c2, c3⟩ := cvCells _ _ _ _ _ _ r1
  have R1' := Lib.hid r1
  have R2' := Lib.hid r2
  clear r1 r2 hb2
  go_wp2_with fail
  refine (K3.out _ HB2.out R1'.out R2'.out).mono ?_
  rintro e w3 ⟨rfl, hb3⟩
  have HB3 := Lib.hid (HB2.out.trans (hb3.mono HB2.out.size))
  clear hb3
  go_wp2_with fail
  go_ret
  exact ⟨rfl, HB3.out⟩

end Go.Proofs.Ytamcjhibdcbdnaa.Cl
