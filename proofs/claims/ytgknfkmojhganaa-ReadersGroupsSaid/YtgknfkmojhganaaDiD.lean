import Derived.Test.YtgknfkmojhganaaDiC
namespace Go.Proofs.Ytgknfkmojhganaa.Di
open Go.RowKit
open Go.Proofs.Ytgknfkmojhganaa.Tp
set_option linter.unusedVariables false

/-- A list of those below n for which p holds, ascending. -/
def SmPost (p : Nat → Bool) (n : Nat) (w : World) (e : Ending) (w' : World) : Prop := ∃ A cc, e = .returned (.slice A (cnt p n) cc) ∧ w'.ownsRow w.heap.size 3 1 (.slice A (cnt p n) cc) (cnt p n) (iv (idx p n)) ∧ Below w.heap.size w w'

set_option maxRecDepth 100000 in
set_option maxHeartbeats 1000000 in
theorem groups_any (B : Nat) (d : Dy) (v : Vd) (w : World) (h : DL w B d v) (hn : d.k.length ≤ 100) :
    Calls Try.prog 23 #[.agg (gd d v)] w (SmPost (gB d) d.k.length w) := by
  have HB0 := Lib.hid (box_below w (.cells (gd d v) 29))
  have R0 := Lib.hid (heap_alloc_new w (.cells (gd d v) 29))
  obtain ⟨g0, g1⟩ := gdCells R0.out
  have hg := fun k w' (hw : Below w.heap.size w w') => rgroup_any B d v k w' (h.below hw) (by omega)
  simp only [gd] at hg
  have HGR := Lib.hid hg
  clear h hg
  obtain ⟨i0, hi1, hz0, hz1, hz2⟩ := info_parts zinfo3
  have HI := Lib.hid hi1
  have HI0 := Lib.hid hz0
  have HI1 := Lib.hid hz1
  have HI2 := Lib.hid hz2
  clear hi1 hz0 hz1 hz2
  go_enter Try.func23, Try.ntmps23
  go_wp2_with fail
  clear g0 g1
  have l0 := HB0.out.size
  simp at l0
  have hz : w.heap.size < (w.alloc (.cells (gd d v) 29)).heap.size := by simp
  generalize hp : gB d = p at *
  have HPP := Lib.hid hp
  clear hp
  generalize w.alloc (.cells (gd d v) 29) = W0 at *
  go_loopw [3, 8] (fun ov ii wr => ∃ k : Nat, k ≤ d.k.length ∧ ii = .int .i64 k ∧ wr.ownsRow (w.heap.size + 1) 3 1 ov (cnt p k) (iv (idx p k)) ∧ wr.heap[w.heap.size]? = some (.cells (gd d v) 29 (0, 0)) ∧ Below w.heap.size w wr) (fun _ ii _ => d.k.length - (intOf ii).toNat)
  case atStart => exact ⟨0, by omega, rfl, own_nil _ _ _ _, R0.out, HB0.out⟩
  case round =>
    obtain ⟨k, hk, rfl, hown, hbox, hbl⟩ := hrel
    have HOWN := Lib.hid hown
    have HBL := Lib.hid hbl
    have HBX := Lib.hid hbox
    clear hown hbl hbox
    by_cases hlt : k < d.k.length
    · have hcn := cnt_le p k
      have HC := Lib.hid (HGR.out k wr HBL.out)
      obtain ⟨g0, g1⟩ := gdCells HBX.out
      have j0 : (0 : Int) ≤ (k : Int) := by omega
      have j1 : (k : Int) < (d.k.length : Int) := by omega
      cases hpk : p k with
      | true =>
        have HCN := Lib.hid (show cnt p (k + 1) = cnt p k + 1 by rw [cnt, if_pos hpk])
        have HIX := Lib.hid (show iv (idx p (k + 1)) = iv (idx p k) ++ [.int .i64 (k : Int)] by rw [idx, if_pos hpk, iv_snoc])
        rw [hpk] at HC
        clear hpk
        go_wp2_with (first
          | (go_at_call 51; refine HC.out.mono ?_; rintro e w2 ⟨rfl, hb2⟩; have HB2 := Lib.hid (HBL.out.trans (hb2.mono HBL.out.size)); have HO2 := Lib.hid (own_below HOWN.out hb2); have HX2 := Lib.hid ((hb2.block _ (row_lt HBX.out)).trans HBX.out); have hl2 : w.heap.size + 1 ≤ w2.heap.size := row_lt HX2.out; clear hb2)
          | (at_builtin; refine wpList_append_own _ rfl (.tmp 14) (.tmp 16) 22 rfl (w.heap.size + 1) 3 i0 (.int .i64 0) 1 8 Try.underlying22 HI.out HI0.out HI1.out HI2.out rfl (by decide) _ (cnt p k) (iv (idx p k)) rfl (HO2.out.alloc _) ⟨w2.heap.size, 0, none⟩ 1 1 [.int .i64 (k : Int)] rfl rfl (World.news_of_block (heap_alloc_new w2 _)) (by simp [Value.oneCell']) (by unfold maxLen; omega) (by omega) (by simp; omega) ?_; intro v' w6 hown hgr _; have HOWN6 := Lib.hid hown; have HB6 := Lib.hid (far_below HB2.out HO2.out hgr (by omega)); have HX6 := Lib.hid ((far_block HO2.out hgr w.heap.size (by omega) (by omega)).trans HX2.out); clear hown hgr))
        exact ⟨⟨k + 1, by omega, by go_num, by rw [HCN.out, HIX.out]; exact HOWN6.out, HX6.out, HB6.out⟩, by simp [intOf]; omega⟩
      | false =>
        have HCN := Lib.hid (show cnt p (k + 1) = cnt p k by rw [cnt, if_neg (by rw [hpk]; decide)]; rfl)
        have HIX := Lib.hid (show idx p (k + 1) = idx p k by rw [idx, if_neg (by rw [hpk]; decide)])
        rw [hpk] at HC
        clear hpk
        go_wp2_with (go_at_call 51; refine HC.out.mono ?_; rintro e w2 ⟨rfl, hb2⟩; have HB2 := Lib.hid (HBL.out.trans (hb2.mono HBL.out.size)); have HO2 := Lib.hid (own_below HOWN.out hb2); have HX2 := Lib.hid ((hb2.block _ (row_lt HBX.out)).trans HBX.out); clear hb2)
        exact ⟨⟨k + 1, by omega, by go_num, by rw [HCN.out, HIX.out]; exact HO2.out, HX2.out, HB2.out⟩, by simp [intOf]; omega⟩
    · obtain rfl : k = d.k.length := by omega
      obtain ⟨A, cc, rfl⟩ := own_form HOWN.out
      go_wp2_with fail
      go_ret
      exact ⟨A, cc, by first | rfl | simp, own_base HOWN.out (Nat.le_succ _), HBL.out⟩

set_option maxRecDepth 100000 in
set_option maxHeartbeats 400000 in
theorem has_any (l : List Nat) (x : Nat) (A : Option Addr) (n cc : Nat) (w : World) (h : Row w 0 1 A n (iv l)) (hn : n ≤ 1000) :
    Calls Try.prog 22 #[.slice A n cc, .int .i64 (x : Int)] w fun e w' => e = .returned (.bool (anyB (fun j => l.getD j 0 == x) n)) ∧ w' = w := by
  have H := Lib.hid h
  clear h
  go_enter Try.func22, Try.ntmps22
  go_wp2_with fail
  go_loopw [9] (fun ii wr => ∃ k : Nat, k ≤ n ∧ ii = .int .i64 k ∧ (∀ j, j < k → (l.getD j 0 == x) = false) ∧ wr = w) (fun ii _ => n - (intOf ii).toNat)
  case atStart => exact ⟨0, by omega, rfl, fun j h => absurd h (by omega), rfl⟩
  case round =>
    obtain ⟨k, hk, rfl, hno, rfl⟩ := hrel
    have HNO := Lib.hid hno
    clear hno
    by_cases hlt : k < n
    · obtain ⟨b, off, hA, -, -, d0⟩ := H.out.int hlt
      subst hA
      have i0 : (0 : Int) ≤ (k : Int) := by omega
      have i1 : (k : Int) < (n : Int) := by omega
      generalize hy : l.getD k 0 = y at *
      have HY := Lib.hid hy
      clear hy
      by_cases e : y = x
      · have k1 : ((y : Int) == (x : Int)) = true := by rw [e]; simp
        have HE := Lib.hid e
        clear e
        go_wp2_with fail
        go_ret
        exact ⟨by rw [(any_iff _ _).2 ⟨k, hlt, by rw [HY.out, HE.out]; simp⟩]; rfl, rfl⟩
      · have k1 : ((y : Int) == (x : Int)) = false := beq_eq_false_iff_ne.2 (by omega)
        have k2 : (y == x) = false := beq_eq_false_iff_ne.2 e
        have HK2 := Lib.hid k2
        clear e k2
        go_wp2_with fail
        exact ⟨⟨k + 1, by omega, by go_num, fun j hj => by
          by_cases e : j = k
          · rw [e, HY.out]; exact HK2.out
          · exact HNO.out j (by omega), by first | rfl | trivial⟩, by simp [intOf]; omega⟩
    · obtain rfl : n = k := by omega
      go_wp2_with fail
      go_ret
      exact ⟨by rw [any_no HNO.out]; rfl, rfl⟩

theorem has_idx (p : Nat → Bool) (n i : Nat) (hi : i < n) : anyB (fun j => (idx p n).getD j 0 == i) (cnt p n) = p i := by
  cases hp : p i with
  | true =>
    have hm := (idx_mem p i n).2 ⟨hi, hp⟩
    obtain ⟨j, hj, he⟩ := List.getElem_of_mem hm
    refine (any_iff _ _).2 ⟨j, by rw [← idx_len]; exact hj, ?_⟩
    rw [List.getD_eq_getElem?_getD, List.getElem?_eq_getElem hj]
    simpa using he
  | false =>
    refine any_no fun j hj => ?_
    rw [← idx_len] at hj
    rw [beq_eq_false_iff_ne]
    intro e
    have hm : i ∈ idx p n := by
      rw [← e, List.getD_eq_getElem?_getD, List.getElem?_eq_getElem hj]
      exact List.getElem_mem hj
    rw [((idx_mem p i n).1 hm).2] at hp
    cases hp

end Go.Proofs.Ytgknfkmojhganaa.Di
