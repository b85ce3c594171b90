import Derived.Test.YtfdmneceecaocaaAcF
import Derived.Test.YtfdmneceecaocaaAcH
namespace Go.Proofs.Ytfdmneceecaocaa.Di
open Go.RowKit
open Go.Proofs.Ytfdmneceecaocaa.Tp
set_option linter.unusedVariables false

set_option maxRecDepth 100000 in
set_option maxHeartbeats 400000 in
theorem has_any (l : List Nat) (x : Nat) (A : Option Addr) (n cc : Nat) (w : World) (h : Row w 0 1 A n (iv l)) (hn : n ≤ 1000) :
    Calls Try.prog 31 #[.slice A n cc, .int .i64 (x : Int)] w fun e w' => e = .returned (.bool (anyB (fun j => l.getD j 0 == x) n)) ∧ w' = w := by
  have H := Lib.hid h
  clear h
  go_enter Try.func31, Try.ntmps31
  go_wp2_with fail
  go_loopw [9] (fun ii wr => ∃ k : Nat, k ≤ n ∧ ii = .int .i64 k ∧ (∀ j, j < k → (l.getD j 0 == x) = false) ∧ wr = w) (fun ii _ => n - (intOf ii).toNat)
  case atStart => exact ⟨0, by omega, rfl, fun j h => absurd h (by omega), rfl⟩
  case round =>
    obtain ⟨k, hk, rfl, hno, rfl⟩ := hrel
    have HNO := Lib.hid hno
    clear hno
    by_cases hlt : k < n
    · obtain ⟨b, off, hA, -, -, d0⟩ := H.out.int hlt
      subst hA
      have i0 : (0 : Int) ≤ (k : Int) := by omega
      have i1 : (k : Int) < (n : Int) := by omega
      generalize hy : l.getD k 0 = y at *
      have HY := Lib.hid hy
      clear hy
      by_cases e : y = x
      · have k1 : ((y : Int) == (x : Int)) = true := by rw [e]; simp
        have HE := Lib.hid e
        clear e
        go_wp2_with fail
        go_ret
        exact ⟨by rw [(any_iff _ _).2 ⟨k, hlt, by rw [HY.out, HE.out]; simp⟩]; rfl, rfl⟩
      · have k1 : ((y : Int) == (x : Int)) = false := beq_eq_false_iff_ne.2 (by omega)
        have k2 : (y == x) = false := beq_eq_false_iff_ne.2 e
        have HK2 := Lib.hid k2
        clear e k2
        go_wp2_with fail
        exact ⟨⟨k + 1, by omega, by go_num, fun j hj => by
          by_cases e : j = k
          · rw [e, HY.out]; exact HK2.out
          · exact HNO.out j (by omega), by first | rfl | trivial⟩, by simp [intOf]; omega⟩
    · obtain rfl : n = k := by omega
      go_wp2_with fail
      go_ret
      exact ⟨by rw [any_no HNO.out]; rfl, rfl⟩

theorem has_idx (p : Nat → Bool) (n i : Nat) (hi : i < n) : anyB (fun j => (idx p n).getD j 0 == i) (cnt p n) = p i := by
  cases hp : p i with
  | true =>
    have hm := (idx_mem p i n).2 ⟨hi, hp⟩
    obtain ⟨j, hj, he⟩ := List.getElem_of_mem hm
    refine (any_iff _ _).2 ⟨j, by rw [← idx_len]; exact hj, ?_⟩
    rw [List.getD_eq_getElem?_getD, List.getElem?_eq_getElem hj]
    simpa using he
  | false =>
    refine any_no fun j hj => ?_
    rw [← idx_len] at hj
    rw [beq_eq_false_iff_ne]
    intro e
    have hm : i ∈ idx p n := by
      rw [← e, List.getD_eq_getElem?_getD, List.getElem?_eq_getElem hj]
      exact List.getElem_mem hj
    rw [((idx_mem p i n).1 hm).2] at hp
    cases hp

set_option maxRecDepth 100000 in
set_option maxHeartbeats 400000 in
theorem ints_same (A A' : Option Addr) (n cc cc' : Nat) (l : List Nat) (w : World) (h1 : Row w 0 1 A n (iv l)) (h2 : Row w 0 1 A' n (iv l)) (hn : n ≤ 1000) :
    Calls Try.prog 20 #[.slice A n cc, .slice A' n cc'] w fun e w' => e = .returned (.bool true) ∧ Below w.heap.size w w' := by
  have H1 := Lib.hid h1
  have H2 := Lib.hid h2
  clear h1 h2
  go_enter Try.func20, Try.ntmps20
  go_wp2_with fail
  go_loopw [13] (fun ii wr => ∃ k : Nat, k ≤ n ∧ ii = .int .i64 k ∧ ∃ q, wr = w.drewN q) (fun ii _ => n - (intOf ii).toNat)
  case atStart => exact ⟨0, by omega, rfl, 0, rfl⟩
  case round =>
    obtain ⟨k, hk, rfl, q, rfl⟩ := hrel
    by_cases hlt : k < n
    · obtain ⟨b, off, hA, -, -, d0⟩ := H1.out.int hlt
      obtain ⟨b', off', hA', -, -, d0'⟩ := H2.out.int hlt
      subst hA hA'
      have i0 : (0 : Int) ≤ (k : Int) := by omega
      have i1 : (k : Int) < (n : Int) := by omega
      generalize l.getD k 0 = x at *
      go_wp2_with fail
      go_quiet (fail)
      go_wp2_with fail
      exact ⟨⟨k + 1, by omega, by go_num, _, rfl⟩, by simp [intOf]; omega⟩
    · obtain rfl : k = n := by omega
      go_wp2_with fail
      go_ret
      exact ⟨rfl, ⟨rfl, rfl, rfl, Nat.le_refl _, fun _ _ => rfl⟩⟩


/-- The chapter's example. -/
def exE : Es := ⟨1, [⟨5, 3, 0, 0, 8, 0, 0⟩]⟩
theorem exE_ok : Eok exE := by
  refine ⟨by decide, by decide, by decide, fun j hj => ?_, fun j hj => ?_⟩
  · have hj : j < 1 := hj
    obtain rfl : j = 0 := by omega
    refine ⟨by decide, by decide, by decide, by decide, .inr (.inl ⟨rfl, by decide, by decide, rfl, rfl, rfl⟩)⟩
  · have hj : j + 1 < 1 := hj
    omega
theorem exE_lk (t : Int) : lkA exE.e 0 t = if 5 ≤ t ∧ t < 8 then some 0 else none := by
  show lk [⟨5, 3, 0, 0, 8, 0, 0⟩] 0 t 1 = _
  rw [lk]
  show (if t < (5 : Int) ∨ (0 : Int) ≠ 0 then none else if (3 : Int) = 4 then none else if (3 : Int) = 3 ∧ t < 8 then some 0 else none) = _
  by_cases h1 : t < 5
  · rw [if_pos (.inl h1), if_neg (by omega)]
  · rw [if_neg (by omega), if_neg (by omega)]
    by_cases h2 : t < 8
    · rw [if_pos ⟨rfl, h2⟩, if_pos (by omega)]
    · rw [if_neg (fun h => h2 h.2), if_neg (by omega)]
set_option maxRecDepth 100000 in
set_option maxHeartbeats 1000000 in
theorem awake_any (w : World) : Calls Try.prog 14 #[] w fun e w' => e = .returned (.bool true) ∧ Below w.heap.size w w' := by
  have h0 := heap_alloc_new w (.cells (acc ⟨5, 3, 0, 0, 8, 0, 0⟩) 52)
  have hb1 := box_below w (.cells (acc ⟨5, 3, 0, 0, 8, 0, 0⟩) 52)
  have hr : EL (w.alloc (.cells (acc ⟨5, 3, 0, 0, 8, 0, 0⟩) 52)) 0 exE ⟨some ⟨w.heap.size, 0, none⟩, 1⟩ :=
    ⟨rfl, fun _ => ⟨w.heap.size, 0, rfl, Nat.zero_le _, row_lt h0, fun j u hj => by
      rw [Nat.zero_add, cell_of_row _ _ _ _ _ _ h0, ← Array.getElem?_toList]
      exact hj⟩⟩
  have hb2 := box_below (w.alloc (.cells (acc ⟨5, 3, 0, 0, 8, 0, 0⟩) 52)) (.cells (ge exE ⟨some ⟨w.heap.size, 0, none⟩, 1⟩) 25)
  have h1 := heap_alloc_new (w.alloc (.cells (acc ⟨5, 3, 0, 0, 8, 0, 0⟩) 52)) (.cells (ge exE ⟨some ⟨w.heap.size, 0, none⟩, 1⟩) 25)
  rw [show (w.alloc (.cells (acc ⟨5, 3, 0, 0, 8, 0, 0⟩) 52)).heap.size = w.heap.size + 1 by simp] at h1
  have HR := Lib.hid (Row.below hr hb2)
  have HB := Lib.hid (hb1.trans (hb2.mono (by simp)))
  have H1 := Lib.hid h1
  have HF := Lib.hid (show (#[.int .i64 1, .slice (some ⟨w.heap.size, 0, none⟩) 1 1] : Array Value) = ge exE ⟨some ⟨w.heap.size, 0, none⟩, 1⟩ from rfl)
  clear h0 hb1 hr hb2 h1
  go_enter Try.func14, Try.ntmps14
  go_wp2_with fail
  go_loopw [2] (fun tt wr => ∃ k : Nat, k ≤ 5 ∧ tt = .int .i64 ((4 + k : Nat) : Int) ∧ Below w.heap.size w wr ∧ EL wr 0 exE ⟨some ⟨w.heap.size, 0, none⟩, 1⟩ ∧ wr.heap[w.heap.size + 1]? = some (.cells (ge exE ⟨some ⟨w.heap.size, 0, none⟩, 1⟩) 25 (0, 0))) (fun tt _ => 9 - (intOf tt).toNat)
  case atStart => exact ⟨0, by omega, rfl, HB.out, HR.out, H1.out⟩
  case round =>
    obtain ⟨k, hk, rfl, hbl, hel, hq⟩ := hrel
    have HBL := Lib.hid hbl
    have HEL := Lib.hid hel
    have HQ := Lib.hid hq
    obtain ⟨g0, g1⟩ := geCells hq
    have g0 : wr.cell? ⟨w.heap.size + 1, 0, none⟩ = some (.int .i64 1) := g0
    have g1 : wr.cell? ⟨w.heap.size + 1, 1, none⟩ = some (.slice (some ⟨w.heap.size, 0, none⟩) 1 1) := g1
    clear hbl hel hq HB HR H1
    by_cases hlt : k < 5
    · obtain ⟨t, ht⟩ : ∃ t : Nat, 4 + k = t := ⟨_, rfl⟩
      have ht4 : 4 ≤ t := by omega
      have ht8 : t ≤ 8 := by omega
      have HT := Lib.hid ht
      rw [ht]
      have hl := linked_yes exE ⟨some ⟨w.heap.size, 0, none⟩, 1⟩ 0 (t : Int) wr HEL.out ⟨exE_ok, by decide, by decide⟩
      rw [exE_lk] at hl
      have d1 : decide ((t : Int) ≤ 8) = true := decide_eq_true (by omega)
      by_cases hc : 5 ≤ (t : Int) ∧ (t : Int) < 8
      · rw [if_pos hc] at hl
        have HL := Lib.hid hl
        have d2 : decide ((5 : Int) ≤ (t : Int)) = true := decide_eq_true hc.1
        have d3 : decide ((t : Int) < 8) = true := decide_eq_true hc.2
        clear hl hc ht
        go_wp2_with (go_at_call 27; rw [HF.out]; refine HL.out.mono ?_; rintro e w3 ⟨rfl, hb3⟩; have HB3 := Lib.hid (HBL.out.trans (hb3.mono HBL.out.size)); have HE3 := Lib.hid (Row.below HEL.out hb3); have HQ3 := Lib.hid ((hb3.block _ (row_lt HQ.out)).trans HQ.out); clear hb3 g0 g1; simp only [on, Option.isSome])
        exact ⟨⟨_, _, ⟨k + 1, by omega, by have := HT.out; go_num, HB3.out, HE3.out, HQ3.out⟩, rfl, rfl, rfl⟩, by simp [intOf]; omega⟩
      · rw [if_neg hc] at hl
        have HL := Lib.hid hl
        clear hl ht
        by_cases h5 : (5 : Int) ≤ (t : Int)
        · have d2 : decide ((5 : Int) ≤ (t : Int)) = true := decide_eq_true h5
          have d3 : decide ((t : Int) < 8) = false := decide_eq_false (by omega)
          clear hc h5
          go_wp2_with (go_at_call 27; rw [HF.out]; refine HL.out.mono ?_; rintro e w3 ⟨rfl, hb3⟩; have HB3 := Lib.hid (HBL.out.trans (hb3.mono HBL.out.size)); have HE3 := Lib.hid (Row.below HEL.out hb3); have HQ3 := Lib.hid ((hb3.block _ (row_lt HQ.out)).trans HQ.out); clear hb3 g0 g1; simp only [on, Option.isSome])
          exact ⟨⟨_, _, ⟨k + 1, by omega, by have := HT.out; go_num, HB3.out, HE3.out, HQ3.out⟩, rfl, rfl, rfl⟩, by simp [intOf]; omega⟩
        · have d2 : decide ((5 : Int) ≤ (t : Int)) = false := decide_eq_false h5
          clear hc h5
          go_wp2_with (go_at_call 27; rw [HF.out]; refine HL.out.mono ?_; rintro e w3 ⟨rfl, hb3⟩; have HB3 := Lib.hid (HBL.out.trans (hb3.mono HBL.out.size)); have HE3 := Lib.hid (Row.below HEL.out hb3); have HQ3 := Lib.hid ((hb3.block _ (row_lt HQ.out)).trans HQ.out); clear hb3 g0 g1; simp only [on, Option.isSome])
          exact ⟨⟨_, _, ⟨k + 1, by omega, by have := HT.out; go_num, HB3.out, HE3.out, HQ3.out⟩, rfl, rfl, rfl⟩, by simp [intOf]; omega⟩
    · obtain rfl : k = 5 := by omega
      have hck := check_any exE ⟨some ⟨w.heap.size, 0, none⟩, 1⟩ wr HEL.out
      rw [ck_ok exE_ok] at hck
      have HCK := Lib.hid hck
      have d1 : decide (((4 + 5 : Nat) : Int) ≤ 8) = false := by decide
      clear hck
      go_wp2_with (go_at_call 18; rw [HF.out]; refine HCK.out.mono ?_; rintro e w3 ⟨rfl, hb3⟩; have HB3 := Lib.hid (HBL.out.trans (hb3.mono HBL.out.size)); clear hb3 g0 g1)
      go_ret
      exact ⟨by first | rfl | simp, HB3.out⟩

end Go.Proofs.Ytfdmneceecaocaa.Di
