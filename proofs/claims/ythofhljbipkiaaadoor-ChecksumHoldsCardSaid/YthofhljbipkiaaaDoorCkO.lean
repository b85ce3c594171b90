import Derived.Test.YthofhljbipkiaaaDoorCkN
import Derived.WalkSmall
namespace Go.Proofs.YthofhljbipkiaaaDoor.Ck
open Go.RowKit
open Go.Proofs.YthofhljbipkiaaaDoor.Tp
set_option linter.unusedVariables false

theorem info9 : (Tryd.prog.info? 9).map (fun i => (i.zero, i.size, i.bytes)) = some (some (.string ByteArray.empty), 1, 16) := by kernel_rfl

theorem pick3 (r : Int) (h0 : 0 ≤ r) (h1 : r ≤ 15) : ∃ b : Nat, b ≤ 255 ∧ ∀ w, (Instr.index 9 (.string { data := #[48, 49, 50, 51, 52, 53, 54, 55, 56, 57, 65, 66, 67, 90, 97, 102] }) (.int .i64 r)).run Tryd.prog w = .ok (.int .u8 (b : Int)) w := by
  rcases (by omega : r = 0 ∨ r = 1 ∨ r = 2 ∨ r = 3 ∨ r = 4 ∨ r = 5 ∨ r = 6 ∨ r = 7 ∨ r = 8 ∨ r = 9 ∨ r = 10 ∨ r = 11 ∨ r = 12 ∨ r = 13 ∨ r = 14 ∨ r = 15) with rfl | rfl | rfl | rfl | rfl | rfl | rfl | rfl | rfl | rfl | rfl | rfl | rfl | rfl | rfl | rfl
  · exact ⟨48, by omega, fun w => by kernel_rfl⟩
  · exact ⟨49, by omega, fun w => by kernel_rfl⟩
  · exact ⟨50, by omega, fun w => by kernel_rfl⟩
  · exact ⟨51, by omega, fun w => by kernel_rfl⟩
  · exact ⟨52, by omega, fun w => by kernel_rfl⟩
  · exact ⟨53, by omega, fun w => by kernel_rfl⟩
  · exact ⟨54, by omega, fun w => by kernel_rfl⟩
  · exact ⟨55, by omega, fun w => by kernel_rfl⟩
  · exact ⟨56, by omega, fun w => by kernel_rfl⟩
  · exact ⟨57, by omega, fun w => by kernel_rfl⟩
  · exact ⟨65, by omega, fun w => by kernel_rfl⟩
  · exact ⟨66, by omega, fun w => by kernel_rfl⟩
  · exact ⟨67, by omega, fun w => by kernel_rfl⟩
  · exact ⟨90, by omega, fun w => by kernel_rfl⟩
  · exact ⟨97, by omega, fun w => by kernel_rfl⟩
  · exact ⟨102, by omega, fun w => by kernel_rfl⟩

theorem gb_below {w w' : World} (h : Below w.heap.size w w') : w.grownBy w' none := ⟨h.os, h.tape, h.output, h.size, fun k hk _ => h.block k hk⟩

theorem tape_below {w w' : World} {T : Nat} (h : TapeOk w T) (hb : Below w.heap.size w w') : TapeOk w' T := h.kept (gb_below hb) (by simp)

theorem own_next {B e s T : Nat} {wr w1 : World} {v : Value} {k : Nat} {xs : List Value} (hT : T < B) (hrow : wr.ownsRow B e s v k xs) (hg : wr.grownBy w1 (some T)) : w1.ownsRow B e s v k xs := by
  refine hrow.kept hg ?_
  cases hv : v.ownBlock with
  | none => exact .inl rfl
  | some g =>
    refine .inr (fun e => ?_)
    have := (hrow.lt g hv).1
    cases e
    omega

theorem own_below {B e s : Nat} {wr w1 : World} {v : Value} {k : Nat} {xs : List Value} (hrow : wr.ownsRow B e s v k xs) (hb : Below wr.heap.size wr w1) : w1.ownsRow B e s v k xs := by
  refine hrow.kept (gb_below hb) ?_
  cases hv : v.ownBlock with
  | none => exact .inl rfl
  | some g => exact .inr (fun e => by cases e)

/-- What the conversion of a string to bytes gives, where a number is then drawn from the tape and one byte is set. -/
theorem odd_step (X : ByteArray) (w : World) (T k : Nat) (hT : T < w.heap.size) (htape : TapeOk w T) (hk : k < X.size) :
    ∃ W c, (convert 9 32 (.string X)).run Tryd.prog w = .ok (.slice (some ⟨w.heap.size, 0, none⟩) X.size c) W ∧ TapeOk W.drew T ∧ Below w.heap.size w W ∧ w.heap.size < W.heap.size ∧
      ∀ w5, W.drew.grownBy w5 (some T) → w5.frozen? ⟨w.heap.size, k, none⟩ = false ∧ (∃ old : Nat, w5.cell? ⟨w.heap.size, k, none⟩ = some (.int .u8 (old : Int))) ∧
        ∀ b : Nat, b ≤ 255 → (convert 32 9 (.slice (some ⟨w.heap.size, 0, none⟩) X.size c)).run Tryd.prog (w5.setCell ⟨w.heap.size, k, none⟩ (.int .u8 (b : Int))) =
          .ok (.string (strB ((nums X).set k b))) (w5.setCell ⟨w.heap.size, k, none⟩ (.int .u8 (b : Int))) := by
  have hn := Lib.bytesWorld_at_new w 5 X
  have hsz : X.size ≤ (Lib.bytesCells w 5 X).size := by simp [Lib.bytesCells]
  have hcell : ∀ j, j < X.size → (Lib.bytesWorld w 5 X).cell? ⟨w.heap.size, j, none⟩ = some (.int .u8 (nb X j : Nat)) := fun j hj => by
    rw [Lib.bytesWorld_cell w 5 X j hj]
    have : (X.data.toList.getD j 0).toNat = nb X j := by
      unfold nb nums
      rw [List.getD_eq_getElem?_getD, List.getD_eq_getElem?_getD, List.getElem?_map]
      cases X.data.toList[j]? <;> rfl
    rw [this]
  have hbel : Below w.heap.size w (Lib.bytesWorld w 5 X) :=
    ⟨rfl, rfl, rfl, by rw [Lib.bytesWorld_size]; omega, fun j hj => Lib.bytesWorld_at_old w 5 X j hj⟩
  have hlt : w.heap.size < (Lib.bytesWorld w 5 X).heap.size := by rw [Lib.bytesWorld_size]; omega
  have hdr : ∀ W : World, W.grownBy W.drew none := fun W => ⟨rfl, rfl, rfl, Nat.le_refl _, fun _ _ _ => rfl⟩
  refine ⟨Lib.bytesWorld w 5 X, grownCap w X.size 0 5, Lib.run_convert_string_bytes w 9 32 5 X Tryd.underlying9 Tryd.underlying32 Tryd.underlying5, (tape_below htape hbel).kept (hdr _) (by simp), hbel, hlt, fun w5 hg => ?_⟩
  have hblk : w5.heap[w.heap.size]? = (Lib.bytesWorld w 5 X).heap[w.heap.size]? := hg.block w.heap.size hlt (by simp; omega)
  have hc5 : ∀ j, j < X.size → w5.cell? ⟨w.heap.size, j, none⟩ = some (.int .u8 (nb X j : Nat)) := fun j hj =>
    (World.cell?_of_block (w := Lib.bytesWorld w 5 X) (a := ⟨w.heap.size, j, none⟩) hblk).trans (hcell j hj)
  refine ⟨?_, ⟨_, hc5 k hk⟩, fun b hb => ?_⟩
  · rw [World.frozen?_of_block (w := Lib.bytesWorld w 5 X) (a := ⟨w.heap.size, k, none⟩) hblk]
    simp only [World.frozen?, hn]
    simp
    omega
  · refine run_convert_bytes_arg _ 32 5 Tryd.underlying32 Tryd.underlying5 w.heap.size 0 X.size _ _ (by simp [nums_length]) (fun i hi => ?_) 9 Tryd.underlying9
    rw [Nat.zero_add]
    by_cases e : i = k
    · subst e
      rw [World.cell?_setCell_same _ _ _ (hc5 i hk)]
      simp [show i < (nums X).length by rw [nums_length]; exact hk]
    · rw [World.cell?_setCell_other (h := show (⟨w.heap.size, k, none⟩ : Addr) ≠ ⟨w.heap.size, i, none⟩ from fun h => e (by cases h; rfl)), hc5 i hi]
      have hki : ¬ k = i := fun h => e h.symm
      unfold nb
      rw [List.getD_eq_getElem?_getD, List.getD_eq_getElem?_getD, List.getElem?_map, List.getElem?_set, if_neg hki]
      cases (nums X)[i]? <;> rfl

/-- From before a call to behind the byte that is set. -/
theorem far_grown {wr w4 W w5 : World} {T k : Nat} {v : Value} (h1 : Below wr.heap.size wr w4) (h2 : Below w4.heap.size w4 W) (h3 : W.drew.grownBy w5 (some T)) : wr.grownBy (w5.setCell ⟨w4.heap.size, k, none⟩ v) (some T) := by
  have s1 := h1.size
  have s2 := h2.size
  refine ⟨h3.os.trans (h2.os.trans h1.os), h3.tape.trans (h2.tape.trans h1.tape), h3.output.trans (h2.output.trans h1.output), ?_, fun i hi hne => ?_⟩
  · have := h3.size
    have e : (w5.setCell ⟨w4.heap.size, k, none⟩ v).heap.size = w5.heap.size := by simp [World.setCell]
    rw [e]
    exact Nat.le_trans s1 (Nat.le_trans s2 this)
  · rw [Below.heap_setCell _ _ _ _ (by simp; omega)]
    exact (h3.block i (Nat.lt_of_lt_of_le hi (Nat.le_trans s1 s2)) hne).trans ((h2.block i (by omega)).trans (h1.block i hi))

theorem tape_set {w5 : World} {T g k : Nat} {v : Value} (h : TapeOk w5 T) (hg : T < g) : TapeOk (w5.setCell ⟨g, k, none⟩ v) T :=
  h.kept (gb_set w5 g k v) (fun x e => by cases e; exact hg)

end Go.Proofs.YthofhljbipkiaaaDoor.Ck
