import Derived.Test.YtdhofngildjifaaDiE
namespace Go.Proofs.Ytdhofngildjifaa.Di
open Go.RowKit
open Go.Proofs.Ytdhofngildjifaa.Tp
set_option linter.unusedVariables false

/-- Numbers below n, ascending, each once. -/
structure Strict (l : List Nat) (n : Nat) : Prop where
  up : ∀ j, j + 1 < l.length → l.getD j 0 < l.getD (j + 1) 0
  lt : ∀ j, j < l.length → l.getD j 0 < n
  len : l.length ≤ n
theorem Strict.nil (n : Nat) : Strict [] n := ⟨fun j h => absurd h (by simp), fun j h => absurd h (by simp), by simp⟩
theorem Strict.snoc {l : List Nat} {k : Nat} (h : Strict l k) : Strict (l ++ [k]) (k + 1) := by
  refine ⟨fun j hj => ?_, fun j hj => ?_, by have := h.len; simp; omega⟩
  · simp at hj
    rw [getD_snoc_left (by omega)]
    by_cases e : j + 1 = l.length
    · rw [e, getD_snoc_end]; exact h.lt j (by omega)
    · rw [getD_snoc_left (by omega)]; exact h.up j (by omega)
  · simp at hj
    by_cases e : j = l.length
    · rw [e, getD_snoc_end]; omega
    · rw [getD_snoc_left (by omega)]; have := h.lt j (by omega); omega
theorem Strict.more {l : List Nat} {k : Nat} (h : Strict l k) : Strict l (k + 1) := ⟨h.up, fun j hj => by have := h.lt j hj; omega, by have := h.len; omega⟩

def FwPost (T n : Nat) (w : World) (e : Ending) (w' : World) : Prop := ∃ (l : List Nat) (A : Option Addr) (cc : Nat), e = .returned (.slice A l.length cc) ∧ Strict l n ∧ w'.ownsRow w.heap.size 3 1 (.slice A l.length cc) l.length (iv l) ∧ w.grownBy w' (some T) ∧ TapeOk w' T

set_option maxRecDepth 100000 in
set_option maxHeartbeats 1000000 in
theorem few_any (T n : Nat) (w : World) (ht : TapeOk w T) (hT : T < w.heap.size) (hn : n ≤ 100) :
    Calls Try.prog 30 #[.pointer (some ⟨T, 0, none⟩), .int .i64 (n : Int), .int .i64 2] w (FwPost T n w) := by
  have HT0 := Lib.hid ht
  have HG0 := Lib.hid (gb_row (gb_of_below (Below.refl _ w)) : w.grownBy w (some T))
  clear ht
  obtain ⟨i0, hi1, hz0, hz1, hz2⟩ := info_parts zinfo3
  have HI := Lib.hid hi1
  have HI0 := Lib.hid hz0
  have HI1 := Lib.hid hz1
  have HI2 := Lib.hid hz2
  clear hi1 hz0 hz1 hz2
  go_enter Try.func30, Try.ntmps30
  go_wp2_with fail
  go_loopw [7, 8] (fun ov ii wr => ∃ (k : Nat) (l : List Nat), k ≤ n ∧ ii = .int .i64 (k : Int) ∧ Strict l k ∧ wr.ownsRow w.heap.size 3 1 ov l.length (iv l) ∧ w.grownBy wr (some T) ∧ TapeOk wr T) (fun _ ii _ => n - (intOf ii).toNat)
  case atStart => exact ⟨0, [], by omega, rfl, Strict.nil 0, own_nil _ _ _ _, HG0.out, HT0.out⟩
  case round =>
    obtain ⟨k, l, hk, rfl, hst, hown, hg, htp⟩ := hrel
    have HOWN := Lib.hid hown
    have HG := Lib.hid hg
    have HT := Lib.hid htp
    have HST := Lib.hid hst
    have hsz := hg.size
    have hll := hst.len
    clear hown hg htp hst HG0 HT0
    by_cases hlt : k < n
    · have hTr : T < wr.heap.size := by omega
      have h3 : (k : Int) < (n : Int) := by omega
      go_wp2_with fail
      refine (next_any T 2 _ HT.out (by omega) (by omega)).mono ?_
      rintro e w2 ⟨z2, a2, b2, rfl, hg2, ht2⟩
      have G2 := Lib.hid (gb_trans HG.out hg2)
      have T2 := Lib.hid ht2
      have O2 := Lib.hid (own_keepT HOWN.out hg2 hT)
      have hs2 := (gb_trans HG.out hg2).size
      have HIX := Lib.hid (iv_snoc l k)
      clear hg2 ht2
      rcases (by omega : z2 = 0 ∨ z2 = 1) with rfl | rfl
      · go_wp2_with fail
        exact ⟨⟨k + 1, l, by omega, by go_num, HST.out.more, O2.out, G2.out, T2.out⟩, by simp [intOf]; omega⟩
      · go_wp2_with (at_builtin; refine wpList_append_own _ rfl (.tmp 20) (.tmp 22) 22 rfl w.heap.size 3 i0 (.int .i64 0) 1 8 Try.underlying22 HI.out HI0.out HI1.out HI2.out rfl (by decide) _ l.length (iv l) rfl (O2.out.alloc _) ⟨w2.heap.size, 0, none⟩ 1 1 [.int .i64 (k : Int)] rfl rfl (World.news_of_block (heap_alloc_new w2 _)) (by simp [Value.oneCell']) (by unfold maxLen; omega) (by omega) (by simp; omega) ?_; intro v' w6 hown hgr _; have GR := Lib.hid hgr; have HOWN6 := Lib.hid hown; have G6 := Lib.hid (gb_own (gb_trans G2.out (gb_row (gb_of_below (box_below w2 _)))) GR.out (fun g e => (O2.out.lt g e).1)); have T6 := Lib.hid (tape_kept (tape_new2 T2.out _) GR.out (fun g e => by have := (O2.out.lt g e).1; omega)); clear hown hgr)
        exact ⟨⟨k + 1, l ++ [k], by omega, by go_num, HST.out.snoc, by rw [HIX.out, List.length_append]; exact HOWN6.out, G6.out, T6.out⟩, by simp [intOf]; omega⟩
    · obtain rfl : k = n := by omega
      obtain ⟨A, cc, rfl⟩ := own_form HOWN.out
      go_wp2_with fail
      go_ret
      exact ⟨l, A, cc, rfl, HST.out, HOWN.out, HG.out, HT.out⟩

def PickPost (T : Nat) (zs : List Nat) (w : World) (e : Ending) (w' : World) : Prop := ∃ r, r < zs.length ∧ e = .returned (.int .i64 ((zs.getD r 0 : Nat) : Int)) ∧ w.grownBy w' (some T) ∧ TapeOk w' T

set_option maxRecDepth 100000 in
set_option maxHeartbeats 400000 in
theorem pick_any (T B n cc : Nat) (A : Option Addr) (zs : List Nat) (w : World) (h : TapeOk w T) (hr : Row w B 1 A n (iv zs)) (hB : T < B) (hn : 1 ≤ n) (hn2 : n ≤ 100) :
    Calls Try.prog 38 #[.pointer (some ⟨T, 0, none⟩), .slice A n cc] w (PickPost T zs w) := by
  have hl := hr.len
  rw [iv_len] at hl
  have HT := Lib.hid h
  have HR := Lib.hid hr
  clear h hr
  go_enter Try.func38, Try.ntmps38
  go_wp2_with fail
  refine (next_any T n _ HT.out (by omega) (by omega)).mono ?_
  rintro e w1 ⟨r, hr0, hr1, rfl, hg1, ht1⟩
  obtain ⟨k, rfl⟩ : ∃ k : Nat, r = k := ⟨r.toNat, by omega⟩
  obtain ⟨b, off, rfl, -, -, c0⟩ := (HR.out.grown hg1 (fun g e => by cases e; exact hB)).int (i := k) (by omega)
  have HG := Lib.hid hg1
  have HT1 := Lib.hid ht1
  have i1 : (k : Int) < (n : Int) := by omega
  obtain ⟨z, hz⟩ : ∃ z, zs.getD k 0 = z := ⟨_, rfl⟩
  rw [hz] at c0
  have HZ := Lib.hid hz
  have hkl : k < zs.length := by omega
  clear hg1 ht1 hz hl
  go_wp2_with fail
  go_ret
  refine ⟨k, hkl, ?_, HG.out, HT1.out⟩
  rw [HZ.out]
  rfl

end Go.Proofs.Ytdhofngildjifaa.Di
