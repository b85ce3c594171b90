import Derived.Test.YthofhljbipkiaaaTape
import Derived.Maps.AppendAt
import Derived.OwnWalk
namespace Go.Proofs.Ythofhljbipkiaaa.Tp
open Go.RowKit

theorem info5 : (Try.prog.info? 5).map (fun i => (i.zero, i.size, i.bytes)) = some (some (.int .u8 0), 1, 1) := by kernel_rfl

theorem pick1 (r : Int) (h0 : 0 ≤ r) (h1 : r ≤ 7) : ∃ b : Nat, b ≤ 255 ∧ ∀ w, (Instr.index 9 (.string { data := #[32, 10, 61, 37, 43, 47, 45, 46] }) (.int .i64 r)).run Try.prog w = .ok (.int .u8 (b : Int)) w := by
  rcases (by omega : r = 0 ∨ r = 1 ∨ r = 2 ∨ r = 3 ∨ r = 4 ∨ r = 5 ∨ r = 6 ∨ r = 7) with rfl | rfl | rfl | rfl | rfl | rfl | rfl | rfl
  · exact ⟨32, by omega, fun w => by kernel_rfl⟩
  · exact ⟨10, by omega, fun w => by kernel_rfl⟩
  · exact ⟨61, by omega, fun w => by kernel_rfl⟩
  · exact ⟨37, by omega, fun w => by kernel_rfl⟩
  · exact ⟨43, by omega, fun w => by kernel_rfl⟩
  · exact ⟨47, by omega, fun w => by kernel_rfl⟩
  · exact ⟨45, by omega, fun w => by kernel_rfl⟩
  · exact ⟨46, by omega, fun w => by kernel_rfl⟩

theorem pick2 (r : Int) (h0 : 0 ≤ r) (h1 : r ≤ 7) : ∃ b : Nat, b ≤ 255 ∧ ∀ w, (Instr.index 9 (.string { data := #[97, 98, 99, 100, 101, 102, 116, 107] }) (.int .i64 r)).run Try.prog w = .ok (.int .u8 (b : Int)) w := by
  rcases (by omega : r = 0 ∨ r = 1 ∨ r = 2 ∨ r = 3 ∨ r = 4 ∨ r = 5 ∨ r = 6 ∨ r = 7) with rfl | rfl | rfl | rfl | rfl | rfl | rfl | rfl
  · exact ⟨97, by omega, fun w => by kernel_rfl⟩
  · exact ⟨98, by omega, fun w => by kernel_rfl⟩
  · exact ⟨99, by omega, fun w => by kernel_rfl⟩
  · exact ⟨100, by omega, fun w => by kernel_rfl⟩
  · exact ⟨101, by omega, fun w => by kernel_rfl⟩
  · exact ⟨102, by omega, fun w => by kernel_rfl⟩
  · exact ⟨116, by omega, fun w => by kernel_rfl⟩
  · exact ⟨107, by omega, fun w => by kernel_rfl⟩

def u8s (bs : List Nat) : List Value := bs.map fun b : Nat => Value.int .u8 (b : Int)
theorem u8s_snoc (bs : List Nat) (b : Nat) : u8s bs ++ [.int .u8 (b : Int)] = u8s (bs ++ [b]) := by simp [u8s]

/-- Between two rounds: a row of the call's own, and the tape. -/
def BRel (T : Nat) (w : World) (k : Nat) (v : Value) (wr : World) : Prop :=
  ∃ bs : List Nat, bs.length = k ∧ (∀ b ∈ bs, b ≤ 255) ∧ wr.ownsRow w.heap.size 5 1 v k (u8s bs) ∧ w.grownBy wr (some T) ∧ TapeOk wr T

theorem TapeOk.kept {w w' : World} {T : Nat} {row : Option Nat} (h : TapeOk w T) (hg : w.grownBy w' row) (hr : ∀ g, row = some g → T < g) : TapeOk w' T := by
  obtain ⟨A, n, c, z, p, hT, hmax, hp, hmem⟩ := h
  have hlt : T < w.heap.size := by
    by_cases hh : T < w.heap.size
    · exact hh
    · have : w.heap[T]? = none := by simp; omega
      rw [this] at hT
      cases hT
  refine ⟨A, n, c, z, p, (hg.block T hlt (fun e => by have := hr T e.symm; omega)).trans hT, hmax, hp, fun hn => ?_⟩
  obtain ⟨b, off, rfl, hb, hc⟩ := hmem hn
  refine ⟨b, off, rfl, hb, fun j hj => ?_⟩
  exact (World.cell?_of_block (w := w) (hg.block b (by omega) (fun e => by have := hr b e.symm; omega))).trans (hc j hj)

theorem BRel.more {T : Nat} {w : World} {k : Nat} {v v' : Value} {wr w1 w2 w3 : World} {b : Nat} {o : Obj} {bs : List Nat} (hT : T < w.heap.size) (hl : bs.length = k) (hb : ∀ x ∈ bs, x ≤ 255)
    (h1 : w.grownBy wr (some T)) (hg1 : wr.grownBy w1 (some T)) (h2 : w1.grownBy w2 (some T)) (ht : TapeOk w2 T) (hrow : wr.ownsRow w.heap.size 5 1 v k (u8s bs)) (hb2 : b ≤ 255)
    (hown : w3.ownsRow w.heap.size 5 1 v' (k + 1) (u8s bs ++ [.int .u8 (b : Int)])) (hg : (w2.alloc o).grownBy w3 v.ownBlock) : BRel T w (k + 1) v' w3 := by
  have hg2 := gb_trans h1 (gb_trans hg1 h2)
  have hob : ∀ g, v.ownBlock = some g → w.heap.size ≤ g := fun g e => (hrow.lt g e).1
  have hg3 : w.grownBy w3 (some T) := by
    have a1 : w.grownBy (w2.alloc o) (some T) := gb_trans hg2 (World.grownBy_alloc _ _ _)
    exact ⟨hg.os.trans a1.os, hg.tape.trans a1.tape, hg.output.trans a1.output, Nat.le_trans a1.size hg.size, fun i hi hne =>
      (hg.block i (Nat.lt_of_lt_of_le hi a1.size) (fun e => by have := hob i e.symm; omega)).trans (a1.block i hi hne)⟩
  refine ⟨bs ++ [b], by simp [hl], fun x hx => ?_, by rw [← u8s_snoc]; exact hown, hg3, ?_⟩
  · rcases List.mem_append.1 hx with hx | hx
    · exact hb x hx
    · simp at hx
      omega
  · exact (ht.kept (World.grownBy_alloc w2 o none) (by simp)).kept hg (fun g e => by have := hob g e; omega)

theorem row_next {T : Nat} {w wr w1 : World} {v : Value} {k : Nat} {xs : List Value} (hT : T < w.heap.size) (hrow : wr.ownsRow w.heap.size 5 1 v k xs) (hg : wr.grownBy w1 (some T)) : w1.ownsRow w.heap.size 5 1 v k xs := by
  refine hrow.kept hg ?_
  cases hv : v.ownBlock with
  | none => exact .inl rfl
  | some g =>
    refine .inr (fun e => ?_)
    have := (hrow.lt g hv).1
    cases e
    omega

end Go.Proofs.Ythofhljbipkiaaa.Tp
