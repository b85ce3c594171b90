import Derived.Test.YtgaliinjjonlmaaLgSaid
import Derived.Laws.ResultCell
namespace Go.Proofs.Ytgaliinjjonlmaa.Lg
open Go.RowKit
set_option linter.unusedVariables false

theorem row_lt {w : World} {g : Nat} {o : Obj} (h : w.heap[g]? = some o) : g < w.heap.size := (Array.getElem?_eq_some_iff.1 h).1

theorem below_set2 {w w3 : World} (h : Below w.heap.size w w3) (i j : Nat) (x y : Value) : Below w.heap.size w ((w3.setCell ⟨w.heap.size, i, none⟩ x).setCell ⟨w.heap.size, j, none⟩ y) :=
  ⟨h.os, h.tape, h.output, by simp [World.setCell]; exact h.size, fun k hk => ((Below.heap_setCell _ _ _ _ (by simp; omega)).trans (Below.heap_setCell _ _ _ _ (by simp; omega))).trans (h.block k hk)⟩

theorem rowFacts {w : World} {g t : Nat} {x y : Value} (h : w.heap[g]? = some (.cells #[x, y] t (0, 0))) : w.cell? ⟨g, 0, none⟩ = some x ∧ w.cell? ⟨g, 1, none⟩ = some y ∧ w.frozen? ⟨g, 0, none⟩ = false ∧ w.frozen? ⟨g, 1, none⟩ = false :=
  ⟨by rw [cell_of_row _ _ _ _ _ _ h]; rfl, by rw [cell_of_row _ _ _ _ _ _ h]; rfl, frozen_of_row _ _ _ _ _ h, frozen_of_row _ _ _ _ _ h⟩

theorem results_cell_row2 {P : Program} {fn : Func} {p u : Tmp} {ty : TypeId} (h : fn.results = #[.cell p ty, .tmp u]) (tmps : Array Value) (w : World) (g : Nat) (t : TypeId) (cs : Array Value) (fr : Nat × Nat) (d : TypeDesc)
    (hp : tmps.getD p undef = .pointer (some ⟨g, 0, none⟩)) (hg : w.heap[g]? = some (.cells cs t fr))
    (hu : P.underlying ty = some d) (hd : (match d with | .struct _ | .array _ _ => true | _ => false) = true) (hi : (P.info? ty).map (·.size) = some cs.size) :
    (results fn tmps).run P w = .ok (.tuple #[.agg cs, tmps.getD u undef]) w := by
  rw [results_cell_tmp h, hp]
  simp [asAddr, run_loadVar_row w g t ty cs fr d hg hu hd hi]

theorem info67 (v x : Value) : (Try.prog.info? 67).map (·.size) = some (#[v, x] : Array Value).size := by
  have e : (Try.prog.info? 67).map (·.size) = some 2 := by kernel_rfl
  rw [e]
  rfl

set_option maxRecDepth 100000 in
set_option maxHeartbeats 1000000 in
theorem belief_any (A : Option Addr) (n c : Nat) (l : List R) (x : Int) (w : World) (h : Lies w A n l) (hn : n ≤ 100) (h1 : -1 ≤ x) (h2 : x < n) :
    Calls Try.prog 70 #[.slice A n c, .int .i64 x] w fun e w' => e = .returned (.tuple #[.agg #[.int .i64 (bv l x), .int .i64 x], .bool (!decide (x = -1))]) ∧ Below w.heap.size w w' := by
  have HB := Lib.hid (fun o => box_below w o)
  by_cases hx : x = -1
  · subst hx
    have hbv : bv l (-1) = 0 := if_pos rfl
    rw [hbv]
    clear h
    go_enter Try.func70, Try.ntmps70
    go_wp2
    refine bodyPost_ret (v := .tuple #[.agg #[.int .i64 0, .int .i64 (-1)], .bool false]) (results_cell_row2 (fn := Try.f70) (p := 4) (u := 5) rfl _ _ w.heap.size 67 #[.int .i64 0, .int .i64 (-1)] (0, 0) _ rfl (heap_alloc_new _ _) Try.underlying67 rfl (info67 _ _)) rfl ?_
    exact ⟨rfl, HB.out _⟩
  · obtain ⟨q, rfl⟩ : ∃ q : Nat, x = q := ⟨x.toNat, by omega⟩
    have hbv : bv l (q : Int) = (l.getD q r0).v := by
      unfold bv
      rw [if_neg hx]
      simp
    have hf : (!decide ((q : Int) = -1)) = true := by simp
    rw [hbv, hf]
    obtain ⟨b, off, rfl, hbk, hc⟩ := h.at4 (by omega)
    have e1 : ∀ o, (w.alloc o).cell? ⟨b, off + q * 4 + 3, none⟩ = some (.int .i64 (l.getD q r0).v) := fun o => (World.cell?_alloc_lt _ _ _ hbk).trans (hc q (by omega)).2.2.2
    have hqe : ((q : Int) == -1) = false := beq_eq_false_iff_ne.2 hx
    have g1 : (0 : Int) ≤ (q : Int) := by omega
    generalize (l.getD q r0).v = v at *
    clear h hc hbv hf h1
    go_enter Try.func70, Try.ntmps70
    go_wp2
    refine bodyPost_ret (v := .tuple #[.agg #[.int .i64 v, .int .i64 (q : Int)], .bool true]) (results_cell_row2 (fn := Try.f70) (p := 4) (u := 5) rfl _ _ w.heap.size 67 #[.int .i64 v, .int .i64 (q : Int)] (0, 0) _ rfl (heap_alloc_new _ _) Try.underlying67 rfl (info67 _ _)) rfl ?_
    exact ⟨rfl, HB.out _⟩

set_option maxRecDepth 100000 in
set_option maxHeartbeats 1000000 in
theorem believe_any (A : Option Addr) (n c : Nat) (l : List R) (K U T : Nat) (w : World) (h : Lies w A n l) (hok : Ok l) (hK : K ≤ 1000000) (hT : T ≤ 1000000) :
    Calls Try.prog 38 #[.slice A n c, .int .i64 (K : Int), .int .i64 (U : Int), .int .i64 (T : Int)] w fun e w' => e = .returned (.tuple #[.agg #[.int .i64 (bv l (sd l K U T n)), .int .i64 (sd l K U T n)], .bool (!decide (sd l K U T n = -1))]) ∧ Below w.heap.size w w' := by
  have hn : n ≤ 100 := by have := hok.few; have := h.len; omega
  have hbd := sd_bd l K U T n
  have k1 := fun w' (hw : Below w.heap.size w w') => check_any A n c l w' (h.below hw) hok
  have k2 := fun w' (hw : Below w.heap.size w w') => said_any A n c l K U T w' (h.below hw) hn hK hT
  have k3 := fun w' (hw : Below w.heap.size w w') => belief_any A n c l (sd l K U T n) w' (h.below hw) hn hbd.1 hbd.2
  have K1 := Lib.hid k1
  have K2 := Lib.hid k2
  have K3 := Lib.hid k3
  have HB := Lib.hid (fun o => box_below w o)
  clear h hok hn k1 k2 k3
  obtain ⟨hb0, hb1⟩ := hbd
  generalize sd l K U T n = z at *
  generalize bv l z = y at *
  generalize hz : (!decide (z = -1)) = t at *
  clear hz hb0 hb1
  have HR := Lib.hid (heap_alloc_new w (.cells #[.int .i64 0, .int .i64 0] 67))
  have HBX := Lib.hid (box_below w (.cells #[.int .i64 0, .int .i64 0] 67))
  go_enter Try.func38, Try.ntmps38
  go_wp2_with (first
    | (go_at_call 36; refine (K1.out _ (HB.out _)).mono ?_; rintro e w1 ⟨rfl, hb1⟩; have HR1 := Lib.hid ((hb1.block w.heap.size (by simp)).trans HR.out); have HB1 := Lib.hid (HBX.out.trans (hb1.mono HBX.out.size)); clear hb1)
    | (go_at_call 71; refine (K2.out _ HB1.out).mono ?_; rintro e w2 ⟨rfl, hb2⟩; have HR2 := Lib.hid ((hb2.block w.heap.size (row_lt HR1.out)).trans HR1.out); have HB2 := Lib.hid (HB1.out.trans (hb2.mono HB1.out.size)); clear hb2)
    | (go_at_call 70; refine (K3.out _ HB2.out).mono ?_; rintro e w3 ⟨rfl, hb3⟩; have HR3 := Lib.hid ((hb3.block w.heap.size (row_lt HR2.out)).trans HR2.out); have HB3 := Lib.hid (HB2.out.trans (hb3.mono HB2.out.size)); clear hb3; obtain ⟨c0, c1, f0, f1⟩ := rowFacts HR3.out))
  refine bodyPost_ret (v := .tuple #[.agg #[.int .i64 y, .int .i64 z], .bool t]) (results_cell_row2 (fn := Try.f38) (p := 8) (u := 9) rfl _ _ w.heap.size 67 #[.int .i64 y, .int .i64 z] (0, 0) _ rfl (heap_setCell_same _ _ _ _ _ _ (heap_setCell_same _ _ _ _ _ _ HR3.out)) Try.underlying67 rfl (info67 _ _)) rfl ?_
  exact ⟨rfl, below_set2 HB3.out _ _ _ _⟩

end Go.Proofs.Ytgaliinjjonlmaa.Lg
