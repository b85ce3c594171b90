import Derived.RangeFuncNested
import Derived.RangeFuncBound
import Derived.RangeFuncCalls
import Derived.RangeFuncLeaves
import Derived.RangeFuncBox
import Derived.Shelf.Abstract
import Derived.Shelf.RegionOpen
import Derived.WalkKit
import Derived.OwnWalkIn
import Derived.TacticsInMore
import Derived.LoopNIn
import Derived.LoopIn
import Derived.RegionIn
import Derived.Test.YtidpkkekoldkgaaFpMix
namespace Go.Proofs.Ytidpkkekoldkgaa.Fp
open Go.RowKit Go.Shelf
open Go.Proofs.Ytidpkkekoldkgaa.Ent (Bytes)
set_option linter.unusedVariables false
attribute [local go_sem] Oper.semAt_some

/-- The j-th chunk of a slice of len bytes at ⟨b, off⟩. -/
def chunkV (b off len j : Nat) : Value := .slice (some ⟨b, off + 8 * j, none⟩) (min 8 (len - 8 * j)) (min 8 (len - 8 * j))

def numC (len : Nat) : Nat := (len + 7) / 8

theorem range_snoc (k : Nat) : List.range k ++ [k] = List.range (k + 1) := by rw [List.range_succ]

theorem gb_drew (w : World) : w.grownBy w.drew none := ⟨rfl, rfl, rfl, Nat.le_refl _, fun _ _ _ => rfl⟩

/-- What a round keeps: the iterator's two boxes. -/
def KB (Bs Bn : Nat) (W W' : World) : Prop := W'.cell? ⟨Bs, 0, none⟩ = W.cell? ⟨Bs, 0, none⟩ ∧ W'.cell? ⟨Bn, 0, none⟩ = W.cell? ⟨Bn, 0, none⟩

set_option maxRecDepth 100000 in
set_option maxHeartbeats 6000000 in
theorem chunk1_in (F : Fence) (n : Nat) (h7 : F.fn 39) (hro : F.round = none) (hn : 1 ≤ n) (l Bs Bn b off len cap : Nat) (hlen : len ≤ 65536) (hcap : len ≤ cap) (J Jx : List Nat → World → Prop)
    (hY : ∀ pre x W, J pre W → pre.length < numC len → YieldAt F (n - 1) Try.prog l #[chunkV b off len x] W fun e W' =>
      (e = .returned (.bool true) ∧ J (pre ++ [x]) W' ∧ KB Bs Bn W W') ∨ (e = .returned (.bool false) ∧ Jx (pre ++ [x]) W'))
    (W : World) (hJ : AbidesFrom W.heap.size J) (hBs : W.cell? ⟨Bs, 0, none⟩ = some (.slice (some ⟨b, off, none⟩) len cap)) (hBn : W.cell? ⟨Bn, 0, none⟩ = some (.int .i64 8)) (h0 : J [] W) :
    CallsIn F n Try.prog 39 #[.func (.yield l) #[] #[], .pointer (some ⟨Bs, 0, none⟩), .pointer (some ⟨Bn, 0, none⟩)] W fun e W' => (∃ v, e = .returned v) ∧
      ((∃ ys, ys = List.range (numC len) ∧ J ys W') ∨ (∃ pre, True ∧ Jx pre W')) := by
  refine callsIn_of_wp Try.func39 rfl h7 ?_ hro
  simp only [Try.ntmps39, List.size_toArray, List.length_cons, List.length_nil, Nat.reduceAdd, Nat.reduceSub, Array.replicate_succ, Array.replicate_zero, List.push_toArray, List.append_toArray, List.nil_append, List.cons_append]
  have HJ := Lib.hid hJ
  have HBS := Lib.hid hBs
  have HBN := Lib.hid hBn
  clear hJ
  gi_wp2
  gi_loopw [4, 5] (fun i _ wr => ∃ k : Nat, k ≤ numC len ∧ i = .int .i64 ((8 * k : Nat) : Int) ∧ J (List.range k) wr ∧ wr.cell? ⟨Bs, 0, none⟩ = some (.slice (some ⟨b, off, none⟩) len cap) ∧ wr.cell? ⟨Bn, 0, none⟩ = some (.int .i64 8))
    (fun i _ _ => len + 8 - (intOf i).toNat)
  case atStart => exact ⟨0, Nat.zero_le _, rfl, h0, hBs, hBn⟩
  case round =>
    obtain ⟨k, hk, rfl, hJs, c1, c2⟩ := hrel
    have hkn : k < numC len ↔ 8 * k < len := by unfold numC; omega
    by_cases hlt : 8 * k < len
    · have hk2 := hkn.2 hlt
      obtain ⟨K8, hK8⟩ : ∃ K8, 8 * k = K8 := ⟨_, rfl⟩
      clear hkn
      rw [hK8] at hlt ⊢
      have HJS := Lib.hid hJs
      have HK8 := Lib.hid hK8
      clear hJs hK8
      have hK9 : K8 < cap := by omega
      have hJd : J (List.range k) wr.drew := HJ.out _ _ _ none HJS.out (gb_drew wr) (by simp)
      obtain ⟨fn, tmps, assign, body, hy, hR⟩ := hY _ k wr.drew hJd (by simpa using hk2)
      have HR := Lib.hid hR
      clear hR hJd
      by_cases hm : len - K8 < 8
      · have hv : chunkV b off len k = .slice (some ⟨b, off + K8, none⟩) (len - K8) (len - K8) := by
          unfold chunkV
          rw [HK8.out, Nat.min_eq_right (by omega)]
        rw [hv] at hy
        have hm2 : ((len - K8 : Nat) : Int) < 8 := by omega
        clear hv
        gi_wp2
        gi_region
        all_goals gi_wp2
        all_goals
          refine HR.out.mono ?_
          rintro e W3 (⟨rfl, hJ3, hk3⟩ | ⟨rfl, hJx3⟩)
        all_goals first
          | (have c3 : W3.cell? ⟨Bn, 0, none⟩ = some (.int .i64 8) := hk3.2.trans c2
             have HC4 := Lib.hid (hk3.1.trans c1)
             have HC3 := Lib.hid c3
             have HJ3 := Lib.hid hJ3
             clear hJ3 hk3 c1 c2 hy
             gi_wp2
             exact ⟨⟨k + 1, by omega, by have := HK8.out; go_num, by rw [← range_snoc]; exact HJ3.out, HC4.out, HC3.out⟩, by simp [intOf]; omega⟩)
          | (have HJX := Lib.hid hJx3
             clear hJx3 c1 c2 hy
             gi_wp2
             refine bodyPost_ret (results_none rfl _ _ _) rfl ?_
             exact ⟨⟨_, rfl⟩, .inr ⟨_, trivial, HJX.out⟩⟩)
      · have hv : chunkV b off len k = .slice (some ⟨b, off + K8, none⟩) 8 8 := by
          unfold chunkV
          rw [HK8.out, Nat.min_eq_left (by omega)]
        rw [hv] at hy
        have hm2 : (8 : Int) ≤ ((len - K8 : Nat) : Int) := by omega
        have hm3 : K8 + 8 ≤ len := by omega
        clear hv
        gi_wp2
        gi_region
        all_goals gi_wp2
        all_goals
          refine HR.out.mono ?_
          rintro e W3 (⟨rfl, hJ3, hk3⟩ | ⟨rfl, hJx3⟩)
        all_goals first
          | (have c3 : W3.cell? ⟨Bn, 0, none⟩ = some (.int .i64 8) := hk3.2.trans c2
             have HC4 := Lib.hid (hk3.1.trans c1)
             have HC3 := Lib.hid c3
             have HJ3 := Lib.hid hJ3
             clear hJ3 hk3 c1 c2 hy
             gi_wp2
             exact ⟨⟨k + 1, by omega, by have := HK8.out; go_num, by rw [← range_snoc]; exact HJ3.out, HC4.out, HC3.out⟩, by simp [intOf]; omega⟩)
          | (have HJX := Lib.hid hJx3
             clear hJx3 c1 c2 hy
             gi_wp2
             refine bodyPost_ret (results_none rfl _ _ _) rfl ?_
             exact ⟨⟨_, rfl⟩, .inr ⟨_, trivial, HJX.out⟩⟩)
    · obtain rfl : k = numC len := by have := hkn; omega
      clear hkn
      gi_wp2
      go_end0
      exact ⟨⟨_, rfl⟩, .inl ⟨_, rfl, hJs⟩⟩
end Go.Proofs.Ytidpkkekoldkgaa.Fp
