import Derived.Test.YtgknfkmojhganaaGreatDiD
namespace Go.Proofs.YtgknfkmojhganaaGreat.Di
open Go.RowKit
open Go.Proofs.YtgknfkmojhganaaGreat.Tp
set_option linter.unusedVariables false

/-- Times that do not fall. -/
structure Asc (l : List Nat) (m : Nat) : Prop where
  up : ∀ j, j + 1 < l.length → l.getD j 0 ≤ l.getD (j + 1) 0
  le : ∀ j, j < l.length → l.getD j 0 ≤ m
theorem Asc.snoc {l : List Nat} {m x : Nat} (h : Asc l m) (hx : m ≤ x) : Asc (l ++ [x]) x := by
  refine ⟨fun j hj => ?_, fun j hj => ?_⟩
  · simp at hj
    rw [getD_snoc_left (by omega)]
    by_cases e : j + 1 = l.length
    · rw [e, getD_snoc_end]; exact Nat.le_trans (h.le j (by omega)) hx
    · rw [getD_snoc_left (by omega)]; exact h.up j (by omega)
  · simp at hj
    by_cases e : j = l.length
    · rw [e, getD_snoc_end]; omega
    · rw [getD_snoc_left (by omega)]; exact Nat.le_trans (h.le j (by omega)) hx

/-- A clock: n times, none above 1000. -/
def ClPost (T n : Nat) (w : World) (e : Ending) (w' : World) : Prop := ∃ (l : List Nat) (A : Option Addr) (cc : Nat), e = .returned (.slice A n cc) ∧ l.length = n ∧ Asc l 1000 ∧ w'.ownsRow w.heap.size 3 1 (.slice A n cc) n (iv l) ∧ w.grownBy w' (some T) ∧ TapeOk w' T

set_option maxRecDepth 100000 in
set_option maxHeartbeats 1000000 in
theorem clock_any (T n : Nat) (w : World) (ht : TapeOk w T) (hT : T < w.heap.size) (hn : n ≤ 100) :
    Calls Tryz.prog 40 #[.pointer (some ⟨T, 0, none⟩), .int .i64 (n : Int)] w (ClPost T n w) := by
  have HT0 := Lib.hid ht
  clear ht
  obtain ⟨i0, hi1, hz0, hz1, hz2⟩ := info_parts zinfo3
  have HI := Lib.hid hi1
  have HI0 := Lib.hid hz0
  have HI1 := Lib.hid hz1
  have HI2 := Lib.hid hz2
  clear hi1 hz0 hz1 hz2
  go_enter Tryz.func40, Tryz.ntmps40
  go_wp2_with fail
  refine (next_any T 4 _ HT0.out (by omega) (by omega)).mono ?_
  rintro e w1 ⟨z1, a1, b1, rfl, hg1, ht1⟩
  obtain ⟨m0, rfl⟩ : ∃ z : Nat, z1 = z := ⟨z1.toNat, by omega⟩
  have HG1 := Lib.hid hg1
  have HT1 := Lib.hid ht1
  clear hg1 ht1
  go_wp2_with fail
  go_loopw [5, 6, 7] (fun ov mm ii wr => ∃ (k m : Nat) (l : List Nat), k ≤ n ∧ ii = .int .i64 (k : Int) ∧ mm = .int .i64 (m : Int) ∧ m ≤ 3 + 2 * k ∧ l.length = k ∧ Asc l m ∧ wr.ownsRow w.heap.size 3 1 ov k (iv l) ∧ w.grownBy wr (some T) ∧ TapeOk wr T) (fun _ _ ii _ => n - (intOf ii).toNat)
  case atStart => exact ⟨0, m0, [], by omega, rfl, rfl, by omega, rfl, ⟨fun j h => absurd h (by simp), fun j h => absurd h (by simp)⟩, own_nil _ _ _ _, HG1.out, HT1.out⟩
  case round =>
    obtain ⟨k, m, l, hk, rfl, rfl, hm, hl, has, hown, hg, htp⟩ := hrel
    have HOWN := Lib.hid hown
    have HG := Lib.hid hg
    have HT := Lib.hid htp
    have HAS := Lib.hid has
    have HL := Lib.hid hl
    have hsz := hg.size
    clear hown hg htp has hl HG1 HT1 HT0
    by_cases hlt : k < n
    · have hTr : T < wr.heap.size := by omega
      have h3 : (k : Int) < (n : Int) := by omega
      go_wp2_with fail
      refine (next_any T 3 _ HT.out (by omega) (by omega)).mono ?_
      rintro e w2 ⟨z2, a2, b2, rfl, hg2, ht2⟩
      obtain ⟨z, rfl⟩ : ∃ y : Nat, z2 = y := ⟨z2.toNat, by omega⟩
      have G2 := Lib.hid (gb_trans HG.out hg2)
      have T2 := Lib.hid ht2
      have O2 := Lib.hid (own_keepT HOWN.out hg2 hT)
      have hs2 := (gb_trans HG.out hg2).size
      clear hg2 ht2
      have hsum : (m : Int) + (z : Int) = ((m + z : Nat) : Int) := by omega
      have HS := Lib.hid (HAS.out.snoc (show m ≤ m + z by omega))
      have HIX := Lib.hid (iv_snoc l (m + z))
      have hmz : m + z ≤ 3 + 2 * (k + 1) := by omega
      generalize hy : m + z = y at *
      clear hy
      go_wp2_with (at_builtin; refine wpList_append_own _ rfl (.tmp 19) (.tmp 21) 22 rfl w.heap.size 3 i0 (.int .i64 0) 1 8 Tryz.underlying22 HI.out HI0.out HI1.out HI2.out rfl (by decide) _ k (iv l) rfl (O2.out.alloc _) ⟨w2.heap.size, 0, none⟩ 1 1 [.int .i64 (y : Int)] rfl rfl (World.news_of_block (heap_alloc_new w2 _)) (by simp [Value.oneCell']) (by unfold maxLen; omega) (by omega) (by simp; omega) ?_; intro v' w6 hown hgr _; have GR := Lib.hid hgr; have HOWN6 := Lib.hid hown; have G6 := Lib.hid (gb_own (gb_trans G2.out (gb_row (gb_of_below (box_below w2 _)))) GR.out (fun g e => (O2.out.lt g e).1)); have T6 := Lib.hid (tape_kept (tape_new2 T2.out _) GR.out (fun g e => by have := (O2.out.lt g e).1; omega)); clear hown hgr)
      exact ⟨⟨k + 1, y, l ++ [y], by omega, by go_num, rfl, hmz, by simp [HL.out], HS.out, by rw [HIX.out]; exact HOWN6.out, G6.out, T6.out⟩, by simp [intOf]; omega⟩
    · obtain rfl : k = n := by omega
      obtain ⟨A, cc, rfl⟩ := own_form HOWN.out
      go_wp2_with fail
      go_ret
      exact ⟨l, A, cc, rfl, HL.out, ⟨HAS.out.up, fun j hj => Nat.le_trans (HAS.out.le j hj) (by omega)⟩, HOWN.out, HG.out, HT.out⟩

end Go.Proofs.YtgknfkmojhganaaGreat.Di
