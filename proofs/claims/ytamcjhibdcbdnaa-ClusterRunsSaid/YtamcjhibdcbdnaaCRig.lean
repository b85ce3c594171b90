import Derived.Test.YtamcjhibdcbdnaaCEno
namespace Go.Proofs.Ytamcjhibdcbdnaa.Cl
open Go.RowKit
open Go.Proofs.Ytamcjhibdcbdnaa.Tp
set_option linter.unusedVariables false

def enough (c : Cl) (l : List En) : Bool := (ms c l c.r.length).length == 0

set_option maxRecDepth 100000 in
set_option maxHeartbeats 1000000 in
theorem enough_any (m B B2 n cc : Nat) (A : Option Addr) (c : Cl) (v : Vl) (l : List En) (w : World) (h : CL w B c v) (hok : Ok m c) (hm : m ≤ 100) (hl : Row w B2 3 A n (xl l)) (hn : n ≤ 1000) :
    Calls Try.prog 47 #[.agg (cv c v), .slice A n cc] w fun e w' => e = .returned (.bool (enough c l)) ∧ Below w.heap.size w w' := by
  have HB0 := Lib.hid (box_below w (.cells (cv c v) 25))
  have HR0 := Lib.hid (heap_alloc_new w (.cells (cv c v) 25))
  have hch : ∀ w', Below w.heap.size w w' → Calls Try.prog 21 #[.agg #[.bool c.f, .slice v.A1 c.s.length v.c1, .slice v.A2 c.r.length v.c2, .slice v.A3 c.p.length v.c3]] w' fun e w'' => e = .returned (.int .i64 0) ∧ Below w'.heap.size w' w'' := fun w' hw => check_any m B c v w' (h.below hw) hok hm
  have hsi : ∀ w', Below w.heap.size w w' → Calls Try.prog 50 #[.agg #[.bool c.f, .slice v.A1 c.s.length v.c1, .slice v.A2 c.r.length v.c2, .slice v.A3 c.p.length v.c3], .slice A n cc] w' (MsPost c l w') := fun w' hw => missing_any m B B2 n cc A c v l w' (h.below hw) hok hm (hl.below hw) hn
  have HCH := Lib.hid hch
  have HSI := Lib.hid hsi
  have hrow : (w.alloc (.cells (cv c v) 25)).heap[w.heap.size]? = some (.cells (cv c v) 25 (0, 0)) := HR0.out
  have hml := ms_le c l c.r.length
  have r2 := hok.r2
  clear h hch hsi hok hl
  obtain ⟨c0, c1, c2, c3⟩ := cvCells _ _ _ _ _ _ hrow
  clear hrow
  obtain ⟨z, hz⟩ : ∃ z, enough c l = z := ⟨_, rfl⟩
  rw [hz]
  have HZ2 := Lib.hid (show z = ((ms c l c.r.length).length == 0) from hz.symm)
  clear hz
  go_enter Try.func47, Try.ntmps47
  go_wp2_with fail
  refine (HCH.out _ HB0.out).mono ?_
  rintro e w1 ⟨rfl, hb1⟩
  have R1 := Lib.hid ((hb1.block w.heap.size (row_lt HR0.out)).trans HR0.out)
  have HB1 := Lib.hid (HB0.out.trans (hb1.mono HB0.out.size))
  clear hb1 c0 c1 c2 c3
  obtain ⟨c0, c1, c2, c3⟩ := cvCells _ _ _ _ _ _ R1.out
  go_wp2_with fail
  refine (HSI.out _ HB1.out).mono ?_
  rintro e w2 ⟨A', cc', rfl, -, hb2⟩
  have HB2 := Lib.hid (HB1.out.trans (hb2.mono HB1.out.size))
  clear hb2 c0 c1 c2 c3
  generalize (ms c l c.r.length).length = N at *
  cases N with
  | zero =>
    go_wp2_with fail
    go_ret
    refine ⟨?_, HB2.out⟩
    rw [HZ2.out]
    rfl
  | succ N =>
    have hq : (((N + 1 : Nat) : Int) == 0) = false := beq_eq_false_iff_ne.2 (by omega)
    have hq2 : (((N : Nat) : Int) + 1 == 0) = false := beq_eq_false_iff_ne.2 (by omega)
    go_wp2_with fail
    go_ret
    refine ⟨?_, HB2.out⟩
    rw [HZ2.out]
    rfl

/-- Is the evidence what the replica answers? -/
def mt (c : Cl) (x : En) : Bool := x.g == (rd c.r x.r).1 && x.f == !acc c x.r 1

set_option maxRecDepth 100000 in
set_option maxHeartbeats 1000000 in
theorem rig_call (m B G : Nat) (c : Cl) (v : Vl) (x : En) (w : World) (h : CL w B c v) (hok : Ok m c) (hm : m ≤ 100) (hx : x.r < c.r.length) (hG : w.heap[G]? = some (.cells (cv c v) 25 (0, 0))) :
    Calls Try.prog 76 #[.agg #[.int .i64 (x.r : Int), .int .i64 (x.g : Int), .bool x.f], .pointer (some ⟨G, 0, none⟩)] w fun e w' => e = .returned (.bool (!mt c x)) ∧ Below w.heap.size w w' := by
  obtain ⟨r, g, f⟩ := x
  have hx' : r < c.r.length := hx
  have HB := Lib.hid (box_below w (.cells (xc r g f) 67))
  have HN := Lib.hid (heap_alloc_new w (.cells (xc r g f) 67))
  have hall := fun o => cvCells _ _ _ _ _ _ ((heap_alloc_old w o (row_lt hG)).trans hG)
  have c0 := fun o => (hall o).1
  have c1 := fun o => (hall o).2.1
  have c2 := fun o => (hall o).2.2.1
  have c3 := fun o => (hall o).2.2.2
  have hac : ∀ w', Below w.heap.size w w' → Calls Try.prog 41 #[.agg #[.bool c.f, .slice v.A1 c.s.length v.c1, .slice v.A2 c.r.length v.c2, .slice v.A3 c.p.length v.c3], .int .i64 (r : Int)] w' fun e w'' => e = .returned (.tuple #[.agg #[.int .i64 (r : Int), .int .i64 (((rd c.r r).1 : Nat) : Int), .bool (!acc c r 1)], .int .i64 0]) ∧ Below w'.heap.size w' w'' := fun w' hw => ask_any m B r c v w' (h.below hw) hok hm hx'
  have HAC := Lib.hid hac
  have hv : mt c ⟨r, g, f⟩ = (g == (rd c.r r).1 && f == !acc c r 1) := rfl
  rw [hv]
  clear hv h hok hac hx hG hall
  generalize (rd c.r r).1 = g2 at *
  generalize (!acc c r 1) = f2 at *
  go_enter Try.func76, Try.ntmps76
  go_wp2_with fail
  refine (HAC.out _ HB.out).mono ?_
  rintro e w1 ⟨rfl, hb1⟩
  have R1 := (hb1.block w.heap.size (by simp)).trans HN.out
  have lw1 := row_lt R1
  obtain ⟨k0, k1, k2, -, -, -⟩ := xcCells R1
  have j0 : ∀ o, (w1.alloc o).cell? ⟨w.heap.size, 0, none⟩ = some (.int .i64 (r : Int)) := fun o => (World.cell?_alloc_lt _ _ _ lw1).trans k0
  have j1 : ∀ o, (w1.alloc o).cell? ⟨w.heap.size, 1, none⟩ = some (.int .i64 (g : Int)) := fun o => (World.cell?_alloc_lt _ _ _ lw1).trans k1
  have j2 : ∀ o, (w1.alloc o).cell? ⟨w.heap.size, 2, none⟩ = some (.bool f) := fun o => (World.cell?_alloc_lt _ _ _ lw1).trans k2
  have HB1 := Lib.hid (fun o => (HB.out.trans (hb1.mono HB.out.size)).trans ((box_below w1 o).mono (HB.out.trans (hb1.mono HB.out.size)).size))
  clear hb1 c0 c1 c2 c3 R1 k0 k1 k2
  by_cases hg : g = g2
  · subst hg
    have hq : (g == g) = true := by simp
    cases f <;> cases f2 <;>
      (go_wp2_with fail
       go_ret
       exact ⟨by simp, HB1.out _⟩)
  · have hq : ((g : Int) == (g2 : Int)) = false := beq_eq_false_iff_ne.2 (by omega)
    have hq2 : (g == g2) = false := beq_eq_false_iff_ne.2 hg
    have HQ2 := Lib.hid hq2
    clear hq2 hg
    go_wp2_with fail
    go_ret
    refine ⟨?_, HB1.out _⟩
    rw [HQ2.out]
    rfl

/-- Is all evidence right? -/
def right (c : Cl) (l : List En) : Bool := !anyB (fun j => !mt c (l.getD j e0)) l.length

set_option maxRecDepth 100000 in
set_option maxHeartbeats 1000000 in
theorem right_any (m B B2 n cc : Nat) (A : Option Addr) (c : Cl) (v : Vl) (l : List En) (w : World) (h : CL w B c v) (hok : Ok m c) (hm : m ≤ 100) (hl : Row w B2 3 A n (xl l)) (hn : n ≤ 1000) (hr : ∀ j, j < n → (l.getD j e0).r < c.r.length) :
    Calls Try.prog 45 #[.agg (cv c v), .slice A n cc] w fun e w' => e = .returned (.bool (right c l)) ∧ Below w.heap.size w w' := by
  have hln : l.length = n := by have := hl.len; rw [xl_len] at this; omega
  have HB0 := Lib.hid (box_below w (.cells (cv c v) 25))
  have HR0 := Lib.hid (heap_alloc_new w (.cells (cv c v) 25))
  have hch : ∀ w', Below w.heap.size w w' → Calls Try.prog 21 #[.agg #[.bool c.f, .slice v.A1 c.s.length v.c1, .slice v.A2 c.r.length v.c2, .slice v.A3 c.p.length v.c3]] w' fun e w'' => e = .returned (.int .i64 0) ∧ Below w'.heap.size w' w'' := fun w' hw => check_any m B c v w' (h.below hw) hok hm
  have hri : ∀ w', Below w.heap.size w w' → w'.heap[w.heap.size]? = some (.cells (cv c v) 25 (0, 0)) → Calls Try.prog 77 #[.slice A n cc, .func (.func 76) #[] #[.pointer (some ⟨w.heap.size, 0, none⟩)]] w' fun e w'' => e = .returned (.bool (anyB (fun j => !mt c (l.getD j e0)) n)) ∧ Below w'.heap.size w' w'' := fun w' hw hg =>
    rig_any l w.heap.size A n cc (fun j => !mt c (l.getD j e0)) w' hn ((hl.below hw).base (Nat.zero_le _)) (fun j hj w3 hb3 => rig_call m B w.heap.size c v (l.getD j e0) w3 ((h.below hw).below hb3) hok hm (hr j hj) ((hb3.block _ (row_lt hg)).trans hg))
  have HCH := Lib.hid hch
  have HRI := Lib.hid hri
  have hz : right c l = !anyB (fun j => !mt c (l.getD j e0)) n := by unfold right; rw [hln]
  rw [hz]
  have hrow : (w.alloc (.cells (cv c v) 25)).heap[w.heap.size]? = some (.cells (cv c v) 25 (0, 0)) := HR0.out
  clear h hch hri hok hl hr hz hln
  generalize anyB (fun j => !mt c (l.getD j e0)) n = z at *
  obtain ⟨c0, c1, c2, c3⟩ := cvCells _ _ _ _ _ _ hrow
  clear hrow
  have hmf : ∀ (fn : Fn) (first cap : Array Value) (w : World), (Instr.makeFunc fn first cap).run Try.prog w = .ok (.func fn first cap) w := fun _ _ _ _ => rfl
  go_enter Try.func45, Try.ntmps45
  go_wp2_with fail
  refine (HCH.out _ HB0.out).mono ?_
  rintro e w1 ⟨rfl, hb1⟩
  have R1 := Lib.hid ((hb1.block w.heap.size (row_lt HR0.out)).trans HR0.out)
  have HB1 := Lib.hid (HB0.out.trans (hb1.mono HB0.out.size))
  clear hb1 c0 c1 c2 c3
  go_wp2_with fail
  refine (HRI.out _ HB1.out R1.out).mono ?_
  rintro e w2 ⟨rfl, hb2⟩
  have HB2 := Lib.hid (HB1.out.trans (hb2.mono HB1.out.size))
  clear hb2
  go_wp2_with fail
  go_ret
  exact ⟨rfl, HB2.out⟩

end Go.Proofs.Ytamcjhibdcbdnaa.Cl
