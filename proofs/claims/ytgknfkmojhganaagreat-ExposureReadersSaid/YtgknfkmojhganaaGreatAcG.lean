import Derived.RangeFuncNested
import Derived.RangeFuncBound
import Derived.RangeFuncCalls
import Derived.RangeFuncLeaves
import Derived.RangeFuncBox
import Derived.Shelf.Abstract
import Derived.Shelf.RegionOpen
import Derived.WalkKit
import Derived.OwnWalkIn
import Derived.TacticsInMore
import Derived.LoopNIn
import Derived.LoopIn
import Derived.RegionIn
import Derived.Test.YtgknfkmojhganaaGreatAcC
namespace Go.Proofs.YtgknfkmojhganaaGreat.Di
open Go.RowKit Go.Shelf
open Go.Proofs.YtgknfkmojhganaaGreat.Tp
set_option linter.unusedVariables false
attribute [local go_sem] Oper.semAt_some

/-- The places that have come when k rounds are over, from the end on. -/
def dn (n k : Nat) : List Nat := (List.range k).map fun j => n - 1 - j
theorem dn_succ (n k : Nat) : dn n (k + 1) = dn n k ++ [n - 1 - k] := by simp [dn, List.range_succ]
theorem dn_len (n k : Nat) : (dn n k).length = k := by simp [dn]
theorem mem_dn {n k j : Nat} (h : j < k) : n - 1 - j ∈ dn n k := by
  unfold dn
  exact List.mem_map.2 ⟨j, List.mem_range.2 h, rfl⟩

set_option maxRecDepth 100000 in
set_option maxHeartbeats 4000000 in
/-- slices.Backward's closure. -/
theorem back1_in (F : Fence) (n : Nat) (h68 : F.fn 122) (hro : F.round = none) (hn : 1 ≤ n) (l Bs cap : Nat) (A : Option Addr) (es : List Ac) (hlen : es.length ≤ 120) (W0 : World) (hR : Row W0 0 7 A es.length (av es)) (hBs0 : Bs < W0.heap.size) (J Jx : List Nat → World → Prop)
    (hY : ∀ (pre : List Nat) (x : Nat) (W : World), J pre W → pre.length < es.length → YieldAt F (n - 1) Tryz.prog l #[.int .i64 (x : Int), .agg (acc (ag es x))] W fun e W' =>
      (e = .returned (.bool true) ∧ J (pre ++ [x]) W' ∧ Below W0.heap.size W W') ∨ (e = .returned (.bool false) ∧ Jx (pre ++ [x]) W'))
    (W : World) (hBs : W.cell? ⟨Bs, 0, none⟩ = some (.slice A es.length cap)) (hW : Below W0.heap.size W0 W) (h0 : J [] W) :
    CallsIn F n Tryz.prog 122 #[.func (.yield l) #[] #[], .pointer (some ⟨Bs, 0, none⟩)] W fun e W' => (∃ v, e = .returned v) ∧
      ((∃ ys, ys = dn es.length es.length ∧ J ys W') ∨ (∃ pre, (∃ k, k ≤ es.length ∧ pre = dn es.length k) ∧ Jx pre W')) := by
  refine callsIn_of_wp Tryz.func122 rfl h68 ?_ hro
  simp only [Tryz.ntmps122, List.size_toArray, List.length_cons, List.length_nil, Nat.reduceAdd, Nat.reduceSub, Array.replicate_succ, Array.replicate_zero, List.push_toArray, List.append_toArray, List.nil_append, List.cons_append]
  have HR := Lib.hid hR
  have HBS := Lib.hid hBs
  have HW := Lib.hid hW
  have HYY := Lib.hid hY
  clear hR hY
  have hwr : IntKind.i64.wrap ((es.length : Int) - 1) = (es.length : Int) - 1 := IntWalk.i64_in _ (by omega)
  gi_wp2
  clear hBs hwr
  gi_loopw [3] (fun i wr => ∃ m : Nat, m ≤ es.length ∧ i = .int .i64 ((m : Int) - 1) ∧ J (dn es.length (es.length - m)) wr ∧ Below W0.heap.size W wr)
    (fun i _ => (intOf i + 1).toNat)
  case atStart => exact ⟨es.length, Nat.le_refl _, rfl, by rw [Nat.sub_self]; exact h0, Below.refl _ _⟩
  case round =>
    obtain ⟨m, hm, rfl, hJs, hnx⟩ := hrel
    have hcb : wr.cell? ⟨Bs, 0, none⟩ = some (.slice A es.length cap) := (hnx.cell (p := ⟨Bs, 0, none⟩) hBs0).trans HBS.out
    cases m with
    | zero =>
      have hd : decide ((0 : Int) ≤ ((0 : Nat) : Int) - 1) = false := by decide
      have HJS := Lib.hid hJs
      clear hJs
      gi_wp2
      go_end0
      exact ⟨⟨_, rfl⟩, .inl ⟨_, rfl, HJS.out⟩⟩
    | succ m =>
      obtain ⟨b, off, hA, -, hbk, hac⟩ := HR.out.ac (show m < es.length by omega)
      have hA : A = some ⟨b, off, none⟩ := hA
      subst hA
      have hac := (hac.below (HW.out.trans hnx) hbk)
      have hm1 : (((m + 1 : Nat) : Int) - 1) = (m : Int) := by omega
      rw [hm1]
      obtain ⟨fn, tmps, assign, body, hy, hRR⟩ := HYY.out _ m wr hJs (by rw [dn_len]; omega)
      have HRR := Lib.hid hRR
      unfold acc at hy
      obtain ⟨y0, y1, y2, y3, y4, y5, y6⟩ := hac
      have HDN := Lib.hid (show dn es.length (es.length - m) = dn es.length (es.length - (m + 1)) ++ [m] by
        rw [show es.length - m = (es.length - (m + 1)) + 1 by omega, dn_succ, show es.length - 1 - (es.length - (m + 1)) = m by omega])
      have i0 : (0 : Int) ≤ (m : Int) := by omega
      have i1 : (m : Int) < (es.length : Int) := by omega
      have hw1 : IntKind.i64.wrap ((m : Int) - 1) = (m : Int) - 1 := IntWalk.i64_in _ (by omega)
      clear hm1 hRR hJs
      generalize ag es m = x at *
      obtain ⟨xt, xk, xp, xr, xu, xc, xf⟩ := x
      simp only at y0 y1 y2 y3 y4 y5 y6
      simp only at hy
      gi_wp2
      refine HRR.out.mono ?_
      rintro e W3 (⟨rfl, hJ3, hk3⟩ | ⟨rfl, hJx3⟩)
      · have HJ3 := Lib.hid hJ3
        have HK3 := Lib.hid (hnx.trans hk3)
        clear hJ3 hk3 hcb y0 y1 y2 y3 y4 y5 y6
        gi_wp2
        exact ⟨⟨m, by omega, rfl, by rw [HDN.out]; exact HJ3.out, HK3.out⟩, by simp [intOf]⟩
      · have HJ3 := Lib.hid hJx3
        clear hJx3 hcb y0 y1 y2 y3 y4 y5 y6
        gi_wp2
        refine bodyPost_ret (results_none rfl _ _ _) rfl ?_
        exact ⟨⟨_, rfl⟩, .inr ⟨_, ⟨es.length - m, by omega, rfl⟩, by rw [HDN.out]; exact HJ3.out⟩⟩

set_option maxHeartbeats 1000000 in
/-- slices.Backward: the slice is boxed, the closure captures the box. -/
theorem back_in (F : Fence) (n : Nat) (h55 : F.fn 88) (hro : F.round = none) (A : Option Addr) (len cap : Nat) (w : World) :
    CallsIn F n Tryz.prog 88 #[.slice A len cap] w fun e w' => e = .returned (.func (.func 122) #[] #[.pointer (some ⟨w.heap.size, 0, none⟩)]) ∧ w' = w.alloc (.cells #[.slice A len cap] 26) := by
  refine callsIn_of_wp Tryz.func88 rfl h55 ?_ hro
  simp only [Tryz.ntmps88, List.size_toArray, List.length_cons, List.length_nil, Nat.reduceAdd, Nat.reduceSub, Array.replicate_succ, Array.replicate_zero, List.push_toArray, List.append_toArray, List.nil_append, List.cons_append]
  gi_wp2
  go_ret
  exact ⟨rfl, rfl⟩
theorem back_stops (F : Fence) (n : Nat) (h68 : F.fn 122) (hro : F.round = none) (hn : 1 ≤ n) (Bs cap : Nat) (A : Option Addr) (es : List Ac) (hlen : es.length ≤ 120) (w : World) (hR : Row w 0 7 A es.length (av es)) (hBs : Bs < w.heap.size)
    (hc : w.cell? ⟨Bs, 0, none⟩ = some (.slice A es.length cap)) :
    SeqStopsK F n Tryz.prog 122 #[.pointer (some ⟨Bs, 0, none⟩)] (fun x : Nat => #[Value.int .i64 (x : Int), .agg (acc (ag es x))]) (Below w.heap.size) (fun ys => ys = dn es.length es.length)
      (fun pre => ∃ k, k ≤ es.length ∧ pre = dn es.length k) es.length w := fun l J Jx W hW _ _ hY h0 =>
  back1_in F n h68 hro hn l Bs cap A es hlen w hR hBs J Jx hY W ((hW.cell (p := ⟨Bs, 0, none⟩) hBs).trans hc) hW h0

end Go.Proofs.YtgknfkmojhganaaGreat.Di
