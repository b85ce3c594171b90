import Derived.Test.YtofagmljigbacaaTape
import Derived.Test.YtofagmljigbacaaAdd
import Derived.Maps.AppendAt
import Derived.OwnWalk
namespace Go.Proofs.Ytofagmljigbacaa.Tp
open Go.RowKit
open Go.Proofs.Ytofagmljigbacaa.Cal
set_option linter.unusedVariables false

theorem info3 : (Try.prog.info? 3).map (fun i => (i.zero, i.size, i.bytes)) = some (some (.int .i64 0), 1, 8) := by kernel_rfl

theorem TapeOk.kept {w w' : World} {T : Nat} {row : Option Nat} (h : TapeOk w T) (hg : w.grownBy w' row) (hr : ∀ g, row = some g → T < g) : TapeOk w' T := by
  obtain ⟨A, n, c, z, p, hT, hmax, hp, hmem⟩ := h
  have hlt : T < w.heap.size := by
    by_cases hh : T < w.heap.size
    · exact hh
    · have : w.heap[T]? = none := by simp; omega
      rw [this] at hT
      cases hT
  refine ⟨A, n, c, z, p, (hg.block T hlt (fun e => by have := hr T e.symm; omega)).trans hT, hmax, hp, fun hn => ?_⟩
  obtain ⟨b, off, rfl, hb, hc⟩ := hmem hn
  refine ⟨b, off, rfl, hb, fun j hj => ?_⟩
  exact (World.cell?_of_block (w := w) (hg.block b (by omega) (fun e => by have := hr b e.symm; omega))).trans (hc j hj)

def i64s (hs : List Nat) : List Value := hs.map fun b : Nat => Value.int .i64 (b : Int)
theorem i64s_snoc (hs : List Nat) (b : Nat) : i64s hs ++ [.int .i64 (b : Int)] = i64s (hs ++ [b]) := by simp [i64s]

/-- Ascending, below k. -/
def Asc (hs : List Nat) (k : Nat) : Prop := hs.length ≤ k ∧ (∀ h ∈ hs, h < k) ∧ ∀ i j, i < j → j < hs.length → hs.getD i 0 < hs.getD j 0

theorem asc_more {hs : List Nat} {k : Nat} (h : Asc hs k) : Asc hs (k + 1) := ⟨by have := h.1; omega, fun x hx => by have := h.2.1 x hx; omega, h.2.2⟩

theorem asc_snoc {hs : List Nat} {k : Nat} (h : Asc hs k) : Asc (hs ++ [k]) (k + 1) := by
  obtain ⟨h1, h2, h3⟩ := h
  refine ⟨by simp; omega, fun x hx => ?_, fun i j hij hj => ?_⟩
  · rcases List.mem_append.1 hx with hx | hx
    · have := h2 x hx
      omega
    · simp at hx
      omega
  · simp at hj
    by_cases hl : j < hs.length
    · rw [List.getD_eq_getElem?_getD, List.getD_eq_getElem?_getD, List.getElem?_append_left (by omega), List.getElem?_append_left hl, ← List.getD_eq_getElem?_getD, ← List.getD_eq_getElem?_getD]
      exact h3 i j hij hl
    · obtain rfl : j = hs.length := by omega
      have h4 := h2 _ (getD_mem (hs := hs) (i := i) hij)
      rw [List.getD_eq_getElem?_getD, List.getElem?_append_left hij, ← List.getD_eq_getElem?_getD]
      simpa using h4

/-- Between two rounds of Few. -/
def FRel (T : Nat) (w : World) (k : Nat) (v : Value) (wr : World) : Prop :=
  ∃ hs : List Nat, Asc hs k ∧ wr.ownsRow w.heap.size 3 1 v hs.length (i64s hs) ∧ w.grownBy wr (some T) ∧ TapeOk wr T

theorem row_next {T : Nat} {w wr w1 : World} {v : Value} {k : Nat} {xs : List Value} (hT : T < w.heap.size) (hrow : wr.ownsRow w.heap.size 3 1 v k xs) (hg : wr.grownBy w1 (some T)) : w1.ownsRow w.heap.size 3 1 v k xs := by
  refine hrow.kept hg ?_
  cases hv : v.ownBlock with
  | none => exact .inl rfl
  | some g =>
    refine .inr (fun e => ?_)
    have := (hrow.lt g hv).1
    cases e
    omega

theorem FRel.same {T : Nat} {w wr w1 : World} {k : Nat} {v : Value} {hs : List Nat} (hT : T < w.heap.size) (ha : Asc hs k) (hrow : wr.ownsRow w.heap.size 3 1 v hs.length (i64s hs)) (hg : w.grownBy wr (some T)) (hg1 : wr.grownBy w1 (some T)) (ht : TapeOk w1 T) : FRel T w (k + 1) v w1 :=
  ⟨hs, asc_more ha, row_next hT hrow hg1, gb_trans hg hg1, ht⟩

theorem FRel.more {T : Nat} {w wr w1 w3 : World} {k : Nat} {v v' : Value} {o : Obj} {hs : List Nat} (hT : T < w.heap.size) (ha : Asc hs k) (hrow : wr.ownsRow w.heap.size 3 1 v hs.length (i64s hs)) (hg : w.grownBy wr (some T)) (hg1 : wr.grownBy w1 (some T)) (ht : TapeOk w1 T)
    (hown : w3.ownsRow w.heap.size 3 1 v' (hs.length + 1) (i64s hs ++ [.int .i64 (k : Int)])) (hgr : (w1.alloc o).grownBy w3 v.ownBlock) : FRel T w (k + 1) v' w3 := by
  have hob : ∀ g, v.ownBlock = some g → w.heap.size ≤ g := fun g e => (hrow.lt g e).1
  have a1 : w.grownBy (w1.alloc o) (some T) := gb_trans (gb_trans hg hg1) (World.grownBy_alloc _ _ _)
  have hg3 : w.grownBy w3 (some T) :=
    ⟨hgr.os.trans a1.os, hgr.tape.trans a1.tape, hgr.output.trans a1.output, Nat.le_trans a1.size hgr.size, fun i hi hne =>
      (hgr.block i (Nat.lt_of_lt_of_le hi a1.size) (fun e => by have := hob i e.symm; omega)).trans (a1.block i hi hne)⟩
  refine ⟨hs ++ [k], asc_snoc ha, ?_, hg3, (ht.kept (World.grownBy_alloc w1 o none) (by simp)).kept hgr (fun g e => by have := hob g e; omega)⟩
  rw [← i64s_snoc]
  simpa using hown

set_option maxRecDepth 100000 in
set_option maxHeartbeats 1000000 in
theorem few_any (T N K : Nat) (w : World) (h : TapeOk w T) (hTw : T < w.heap.size) (hN : N ≤ 1000) (hK : 1 ≤ K) (hK2 : K ≤ 1000) :
    Calls Try.prog 24 #[.pointer (some ⟨T, 0, none⟩), .int .i64 (N : Int), .int .i64 (K : Int)] w fun e w' => ∃ v, e = .returned v ∧ FRel T w N v w' := by
  obtain ⟨i0, hi, hz0, hz1, hz2⟩ := info_parts info3
  have HTK := Lib.hid h
  have HI := Lib.hid hi
  have HI0 := Lib.hid hz0
  have HI1 := Lib.hid hz1
  have HI2 := Lib.hid hz2
  clear h hi hz0 hz1 hz2
  go_enter Try.func24, Try.ntmps24
  go_wp2
  go_loopw [7, 8] (fun v i wr => ∃ k : Nat, k ≤ N ∧ i = .int .i64 k ∧ FRel T w k v wr) (fun _ i _ => N - (intOf i).toNat)
  case atStart => exact ⟨0, by omega, rfl, [], ⟨by simp, by simp, by simp⟩, World.ownsRow_nil _ _ _ _, World.grownBy.refl _ _, HTK.out⟩
  case round =>
    obtain ⟨k, hk, rfl, hs, ha, hrow, hg, ht⟩ := hrel
    have hsz := hg.size
    have hlen := ha.1
    have HA := Lib.hid ha
    have HROW := Lib.hid hrow
    have HG := Lib.hid hg
    have HT := Lib.hid ht
    clear ha hrow hg ht
    by_cases hlt : k < N
    · go_wp2_with fail
      refine (next_any T K _ HT.out (by omega) (by omega)).mono ?_
      rintro e w1 ⟨r, hr0, hr1, rfl, hg1, ht1⟩
      have hsz1 := hg1.size
      have HG1 := Lib.hid hg1
      have HT1 := Lib.hid ht1
      clear hg1 ht1
      by_cases h0 : r = (K : Int) - 1
      · subst h0
        go_wp2_with (at_builtin; refine wpList_append_own _ rfl (.tmp 20) (.tmp 22) 22 rfl w.heap.size 3 i0 (.int .i64 0) 1 8 Try.underlying22 HI.out HI0.out HI1.out HI2.out rfl (by decide) _ hs.length (i64s hs) rfl ((row_next hTw HROW.out HG1.out).alloc _) ⟨w1.heap.size, 0, none⟩ 1 1 [.int .i64 (k : Int)] rfl rfl (cell_one_new _ _ _) (by simp [Value.oneCell']) (by unfold maxLen; omega) (by omega) (by simp; omega) ?_; intro v' w3 hown hgr _; have HOWN := Lib.hid hown; have HGR := Lib.hid hgr; clear hown hgr)
        exact ⟨⟨k + 1, by omega, by go_num, FRel.more hTw HA.out HROW.out HG.out HG1.out HT1.out HOWN.out HGR.out⟩, by simp [intOf]; omega⟩
      · have e0 : (r == (K : Int) - 1) = false := beq_eq_false_iff_ne.2 h0
        clear h0
        go_wp2
        exact ⟨⟨k + 1, by omega, by go_num, FRel.same hTw HA.out HROW.out HG.out HG1.out HT1.out⟩, by simp [intOf]; omega⟩
    · obtain rfl : k = N := by omega
      go_wp2
      go_ret
      exact ⟨_, rfl, hs, HA.out, HROW.out, HG.out, HT.out⟩
end Go.Proofs.Ytofagmljigbacaa.Tp
