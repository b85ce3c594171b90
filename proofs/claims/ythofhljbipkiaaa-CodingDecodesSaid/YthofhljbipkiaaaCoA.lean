import Derived.Test.YthofhljbipkiaaaBytesWalk
import Derived.Laws.BytesString
namespace Go.Proofs.Ythofhljbipkiaaa.Co
open Go.RowKit
open Go.Proofs.Ythofhljbipkiaaa.Tp
set_option linter.unusedVariables false

/-- The bytes of a string as numbers. -/
def nums (s : ByteArray) : List Nat := s.data.toList.map UInt8.toNat
def nb (s : ByteArray) (i : Nat) : Nat := (nums s).getD i 0

theorem nums_length (s : ByteArray) : (nums s).length = s.size := by
  rw [nums, List.length_map, Array.length_toList]
  rfl

theorem nb_at (s : ByteArray) (i : Nat) (h : i < s.size) : (s[i]'h).toNat = nb s i := by
  obtain ⟨⟨l⟩⟩ := s
  have hl : i < l.length := h
  simp only [nb, nums, List.getD, List.getElem?_map, List.getElem?_eq_getElem hl, Option.map_some, Option.getD_some]
  rfl

theorem nb_lt (s : ByteArray) (i : Nat) : nb s i ≤ 255 := by
  unfold nb nums
  rw [List.getD_eq_getElem?_getD, List.getElem?_map]
  cases h : s.data.toList[i]? with
  | none => simp
  | some x => simp; have := x.toNat_lt; omega

def strB (bs : List Nat) : ByteArray := strOfNums (bs.map fun b : Nat => (b : Int))

theorem strOf_data (l : List Int) : (strOfNums l).data.toList = l.map (fun n => UInt8.ofNat n.toNat) := by
  simp [strOfNums]

theorem nums_strB {bs : List Nat} (h : ∀ b ∈ bs, b ≤ 255) : nums (strB bs) = bs := by
  unfold nums strB
  rw [strOf_data, List.map_map, List.map_map]
  conv => rhs; rw [← List.map_id bs]
  apply List.map_congr_left
  intro b hb
  have := h b hb
  show (UInt8.ofNat ((b : Int)).toNat).toNat = b
  rw [Int.toNat_natCast, UInt8.toNat_ofNat']
  omega

theorem nums_append (s t : ByteArray) : nums (s ++ t) = nums s ++ nums t := by
  unfold nums
  rw [ByteArray.data_append, Array.toList_append, List.map_append]

theorem nums_extract (s : ByteArray) (a b : Nat) : nums (s.extract a b) = ((nums s).take b).drop a := by
  unfold nums
  rw [ByteArray.data_extract, Array.toList_extract, List.extract_eq_take_drop, ← List.map_take, ← List.map_drop, List.drop_take]

theorem nums_drop (s : ByteArray) (a : Nat) : nums (s.extract a s.size) = (nums s).drop a := by
  rw [nums_extract, List.take_of_length_le (by rw [nums_length]; exact Nat.le_refl _)]

theorem nums_take (s : ByteArray) (b : Nat) : nums (s.extract 0 b) = (nums s).take b := by
  rw [nums_extract, List.drop_zero]

theorem size_extract_le (s : ByteArray) (a b : Nat) : (s.extract a b).size ≤ s.size := by
  rw [ByteArray.size_extract]
  omega

theorem size_strB {bs : List Nat} : (strB bs).size = bs.length := by
  show (strB bs).data.size = _
  rw [← Array.length_toList]
  unfold strB
  rw [strOf_data]
  simp

/-- Bytes as they lie in memory; nil has none. -/
def By (w : World) (v : Value) (bs : List Nat) : Prop :=
  (∀ b ∈ bs, b ≤ 255) ∧ ((∃ D c, v = .slice D 0 c ∧ bs = []) ∨
    ∃ b off c, v = .slice (some ⟨b, off, none⟩) bs.length c ∧ bs.length ≤ c ∧ c ≤ maxLen ∧ b < w.heap.size ∧ ∀ j, j < bs.length → w.cell? ⟨b, off + j, none⟩ = some (.int .u8 ((bs.getD j 0 : Nat) : Int)))

theorem By.below {w w' : World} {v : Value} {bs : List Nat} (h : By w v bs) (hb : Below w.heap.size w w') : By w' v bs := by
  refine ⟨h.1, ?_⟩
  rcases h.2 with h2 | ⟨b, off, c, e, h1, h2, h3, h4⟩
  · exact .inl h2
  · exact .inr ⟨b, off, c, e, h1, h2, Nat.lt_of_lt_of_le h3 hb.size, fun j hj => (hb.cell (p := ⟨b, off + j, none⟩) h3).trans (h4 j hj)⟩

theorem box_below (w : World) (o : Obj) : Below w.heap.size w (w.alloc o) := (Below.refl _ _).alloc (Nat.le_refl _) _

theorem row_lt {w : World} {g : Nat} {o : Obj} (h : w.heap[g]? = some o) : g < w.heap.size := (Array.getElem?_eq_some_iff.1 h).1

theorem by_own {w : World} {base n : Nat} {v : Value} {bs : List Nat} (h : w.ownsRow base 5 1 v n (u8s bs)) (hl : bs.length = n) (hb : ∀ b ∈ bs, b ≤ 255) : By w v bs ∧ ∀ b off k c, v = .slice (some ⟨b, off, none⟩) k c → base ≤ b := by
  have h' := h
  subst hl
  rcases h.2 with ⟨rfl, e⟩ | ⟨g, cap, cur, rfl, hg, hh, hnc, hcm, _⟩
  · exact ⟨⟨hb, (.inl ⟨none, 0, rfl, List.eq_nil_of_length_eq_zero e⟩)⟩, fun b off k c e => by cases e⟩
  · refine ⟨⟨hb, .inr ⟨g, 0, cap, rfl, hnc, hcm, row_lt hh, fun j hj => ?_⟩⟩, fun b off k c e => by cases e; exact hg⟩
    rw [Nat.zero_add, h'.cellAt j (by omega)]
    simp [u8s, hj]

theorem conv_zero (w : World) (p : Option Addr) (c : Nat) : (convert 23 9 (.slice p 0 c)).run Try.prog w = .ok (.string (strB [])) w := by
  rw [run_convert_bytes_string w 23 9 5 _ 0 c Try.underlying23 Try.underlying5 Try.underlying9]
  cases p <;> simp [Conv.bytesToString, loadCells]
  all_goals rfl

theorem conv_by {w : World} {v : Value} {bs : List Nat} (h : By w v bs) : (convert 23 9 v).run Try.prog w = .ok (.string (strB bs)) w := by
  rcases h.2 with ⟨D, c, rfl, rfl⟩ | ⟨b, off, c, rfl, _, _, _, h4⟩
  · exact conv_zero w D c
  · exact run_convert_bytes_arg w 23 5 Try.underlying23 Try.underlying5 b off bs.length c _ (by simp) (fun i hi => by rw [h4 i hi]; simp [hi]) 9 Try.underlying9

theorem byteArray_data (s : ByteArray) : s.toList = s.data.toList := by
  first | exact ByteArray.toList_eq s | rfl | simp

theorem nums_inj {s t : ByteArray} (h : nums s = nums t) : s.toList = t.toList := by
  rw [byteArray_data, byteArray_data]
  unfold nums at h
  exact (List.map_inj_right (fun x y e => UInt8.toNat_inj.1 e)).1 h

theorem str_eq (s t : ByteArray) : (s.toList == t.toList) = decide (nums s = nums t) := by
  rw [Bool.eq_iff_iff]
  simp only [beq_iff_eq, decide_eq_true_eq]
  refine ⟨fun h => ?_, nums_inj⟩
  rw [byteArray_data, byteArray_data] at h
  unfold nums
  rw [h]
theorem all_to {bs : List Nat} {P : Nat → Bool} (h : ∀ j, j < bs.length → P (bs.getD j 0) = true) : bs.all P = true := by
  rw [List.all_eq_true]
  intro x hx
  obtain ⟨j, hj, rfl⟩ := List.getElem_of_mem hx
  have := h j hj
  rwa [List.getD_eq_getElem?_getD, List.getElem?_eq_getElem hj] at this

theorem all_at {bs : List Nat} {P : Nat → Bool} (h : bs.all P = true) {k : Nat} (hk : k < bs.length) : P (bs.getD k 0) = true := by
  rw [List.all_eq_true] at h
  rw [List.getD_eq_getElem?_getD, List.getElem?_eq_getElem hk]
  exact h _ (List.getElem_mem hk)


end Go.Proofs.Ythofhljbipkiaaa.Co
