import Derived.Test.YtgaliinjjonlmaaLgRow
import Derived.Maps.AppendAt
import Derived.OwnWalk
namespace Go.Proofs.Ytgaliinjjonlmaa.Lg
open Go.RowKit
open Go.Proofs.Ytgaliinjjonlmaa.Tp
set_option linter.unusedVariables false

theorem tape_kept {w w' : World} {T : Nat} {row : Option Nat} (h : TapeOk w T) (hg : w.grownBy w' row) (hr : ∀ g, row = some g → T < g) : TapeOk w' T := by
  obtain ⟨A, n, c, z, p, hT, hmax, hp, hmem⟩ := h
  have hlt : T < w.heap.size := row_lt hT
  refine ⟨A, n, c, z, p, (hg.block T hlt (fun e => by have := hr T e.symm; omega)).trans hT, hmax, hp, fun hn => ?_⟩
  obtain ⟨b, off, rfl, hb, hc⟩ := hmem hn
  refine ⟨b, off, rfl, hb, fun j hj => ?_⟩
  exact (World.cell?_of_block (w := w) (hg.block b (by omega) (fun e => by have := hr b e.symm; omega))).trans (hc j hj)

def i64s (hs : List Nat) : List Value := hs.map fun b : Nat => Value.int .i64 (b : Int)
theorem i64s_snoc (hs : List Nat) (b : Nat) : i64s hs ++ [.int .i64 (b : Int)] = i64s (hs ++ [b]) := by simp [i64s]

/-- Times that go up, none above m. -/
structure Times (cs : List Nat) (m : Nat) : Prop where
  le : ∀ i, i < cs.length → cs.getD i 0 ≤ m
  up : ∀ i, i + 1 < cs.length → cs.getD i 0 ≤ cs.getD (i + 1) 0

theorem gd_snoc (cs : List Nat) (x i : Nat) (h : i < cs.length) : (cs ++ [x]).getD i 0 = cs.getD i 0 := by
  rw [List.getD_eq_getElem?_getD, List.getD_eq_getElem?_getD, List.getElem?_append_left h]
theorem gd_last (cs : List Nat) (x : Nat) : (cs ++ [x]).getD cs.length 0 = x := by
  rw [List.getD_eq_getElem?_getD, List.getElem?_append_right (Nat.le_refl _)]
  simp

theorem Times.snoc {cs : List Nat} {m x : Nat} (h : Times cs m) (hx : m ≤ x) : Times (cs ++ [x]) x := by
  refine ⟨fun i hi => ?_, fun i hi => ?_⟩
  · simp at hi
    by_cases hl : i < cs.length
    · rw [gd_snoc _ _ _ hl]
      exact Nat.le_trans (h.le i hl) hx
    · obtain rfl : i = cs.length := by omega
      rw [gd_last]
      exact Nat.le_refl _
  · simp at hi
    rw [gd_snoc _ _ i hi]
    by_cases hl : i + 1 < cs.length
    · rw [gd_snoc _ _ _ hl]
      exact h.up i hl
    · obtain e : i + 1 = cs.length := by omega
      rw [e, gd_last]
      exact Nat.le_trans (h.le i (by omega)) hx

def CRel (T : Nat) (w : World) (k : Nat) (v now : Value) (wr : World) : Prop :=
  ∃ (cs : List Nat) (m : Nat), now = .int .i64 (m : Int) ∧ m ≤ 3 + 2 * k ∧ cs.length = k ∧ Times cs m ∧ wr.ownsRow w.heap.size 3 1 v k (i64s cs) ∧ w.grownBy wr (some T) ∧ TapeOk wr T

theorem row_next {B e s T : Nat} {wr w1 : World} {v : Value} {k : Nat} {xs : List Value} (hT : T < B) (hrow : wr.ownsRow B e s v k xs) (hg : wr.grownBy w1 (some T)) : w1.ownsRow B e s v k xs := by
  refine hrow.kept hg ?_
  cases hv : v.ownBlock with
  | none => exact .inl rfl
  | some g =>
    refine .inr (fun e => ?_)
    have := (hrow.lt g hv).1
    cases e
    omega

theorem grown_on {w wr w1 w3 : World} {B T : Nat} {v : Value} {o : Obj} (hg : w.grownBy wr (some T)) (hg1 : wr.grownBy w1 (some T)) (hob : ∀ g, v.ownBlock = some g → B ≤ g) (hB : w.heap.size ≤ B) (hgr : (w1.alloc o).grownBy w3 v.ownBlock) : w.grownBy w3 (some T) := by
  have a1 : w.grownBy (w1.alloc o) (some T) := gb_trans (gb_trans hg hg1) (World.grownBy_alloc _ _ _)
  exact ⟨hgr.os.trans a1.os, hgr.tape.trans a1.tape, hgr.output.trans a1.output, Nat.le_trans a1.size hgr.size, fun i hi hne =>
      (hgr.block i (Nat.lt_of_lt_of_le hi a1.size) (fun e => by have := hob i e.symm; omega)).trans (a1.block i hi hne)⟩

set_option maxRecDepth 100000 in
set_option maxHeartbeats 1000000 in
theorem clock_any (T N : Nat) (w : World) (h : TapeOk w T) (hTw : T < w.heap.size) (hN : N ≤ 1000) :
    Calls Try.prog 62 #[.pointer (some ⟨T, 0, none⟩), .int .i64 (N : Int)] w fun e w' => ∃ v now, e = .returned v ∧ CRel T w N v now w' := by
  obtain ⟨i0, hi, hz0, hz1, hz2⟩ := info_parts zinfo3
  have HTK := Lib.hid h
  have HI := Lib.hid hi
  have HI0 := Lib.hid hz0
  have HI1 := Lib.hid hz1
  have HI2 := Lib.hid hz2
  clear h hi hz0 hz1 hz2
  go_enter Try.func62, Try.ntmps62
  go_wp2_with fail
  refine (next_any T 4 _ HTK.out (by omega) (by omega)).mono ?_
  rintro e w0 ⟨r, hr0, hr1, rfl, hg0, ht0⟩
  obtain ⟨m0, rfl⟩ : ∃ m : Nat, r = m := ⟨r.toNat, by omega⟩
  have HG0 := Lib.hid hg0
  have HT0 := Lib.hid ht0
  clear hg0 ht0
  go_wp2_with fail
  go_loopw [5, 6, 7] (fun v now i wr => ∃ k : Nat, k ≤ N ∧ i = .int .i64 k ∧ CRel T w k v now wr) (fun _ _ i _ => N - (intOf i).toNat)
  case atStart => exact ⟨0, by omega, rfl, [], m0, rfl, by omega, rfl, ⟨by simp, by simp⟩, World.ownsRow_nil _ _ _ _, HG0.out, HT0.out⟩
  case round =>
    obtain ⟨k, hk, rfl, cs, m, rfl, hm, hcl, hts, hrow, hg, ht⟩ := hrel
    have hsz := hg.size
    have HTS := Lib.hid hts
    have HROW := Lib.hid hrow
    have HG := Lib.hid hg
    have HT := Lib.hid ht
    have HCL := Lib.hid hcl
    clear hrow hg ht hts hcl
    by_cases hlt : k < N
    · go_wp2_with fail
      refine (next_any T 3 _ HT.out (by omega) (by omega)).mono ?_
      rintro e w1 ⟨r, hr0, hr1, rfl, hg1, ht1⟩
      obtain ⟨d, rfl⟩ : ∃ m : Nat, r = m := ⟨r.toNat, by omega⟩
      have hsz1 := hg1.size
      have HG1 := Lib.hid hg1
      have HT1 := Lib.hid ht1
      clear hg1 ht1
      have hmd : (m : Int) + (d : Int) ≤ 100000 := by omega
      have hmd0 : (0 : Int) ≤ (m : Int) + (d : Int) := by omega
      go_wp2_with (at_builtin; refine wpList_append_own _ rfl (.tmp 19) (.tmp 21) 22 rfl w.heap.size 3 i0 (.int .i64 0) 1 8 Try.underlying22 HI.out HI0.out HI1.out HI2.out rfl (by decide) _ k (i64s cs) rfl ((row_next hTw HROW.out HG1.out).alloc _) ⟨w1.heap.size, 0, none⟩ 1 1 [.int .i64 ((m : Int) + (d : Int))] rfl rfl ?_ (by simp [Value.oneCell']) (by unfold maxLen; omega) (by omega) (by simp; omega) ?_; (go_loud (first | exact cell_one_new _ _ _)); intro v' w3 hown hgr _; have HOWN := Lib.hid hown; have HGR := Lib.hid hgr; clear hown hgr)
      have hob : ∀ g, u5.ownBlock = some g → w.heap.size ≤ g := fun g e => (HROW.out.lt g e).1
      refine ⟨⟨k + 1, by omega, by go_num, cs ++ [m + d], m + d, by go_num, by omega, by simp [HCL.out], HTS.out.snoc (by omega), ?_, grown_on HG.out HG1.out hob (Nat.le_refl _) HGR.out, tape_kept (tape_kept HT1.out (World.grownBy_alloc w1 _ none) (by simp)) HGR.out (fun g e => by have := hob g e; omega)⟩, by simp [intOf]; omega⟩
      rw [← i64s_snoc]
      have e : ((m + d : Nat) : Int) = (m : Int) + (d : Int) := by omega
      rw [e]
      exact HOWN.out
    · obtain rfl : k = N := by omega
      go_wp2
      go_ret
      exact ⟨_, _, rfl, cs, m, rfl, by omega, HCL.out, HTS.out, HROW.out, HG.out, HT.out⟩

/-- What the maker of ledgers makes. -/
structure Made (l : List R) (cs : List Nat) : Prop where
  at_ : ∀ i, i < l.length → (l.getD i r0).k = cs.getD i 0 ∧ (l.getD i r0).s ≤ 11 ∧ (l.getD i r0).u ≤ 1 ∧ -2 ≤ (l.getD i r0).v ∧ (l.getD i r0).v ≤ 4

theorem Made.snoc {l : List R} {cs : List Nat} (h : Made l cs) (r : R) (hr : r.k = cs.getD l.length 0 ∧ r.s ≤ 11 ∧ r.u ≤ 1 ∧ -2 ≤ r.v ∧ r.v ≤ 4) : Made (l ++ [r]) cs := by
  refine ⟨fun i hi => ?_⟩
  simp at hi
  by_cases hl : i < l.length
  · rw [getD_snoc _ _ _ hl]
    exact h.at_ i hl
  · obtain rfl : i = l.length := by omega
    rw [getD_last]
    exact hr

/-- A ledger as the maker makes it. -/
structure Led (l : List R) : Prop where
  few : l.length ≤ 11
  at_ : ∀ i, i < l.length → (l.getD i r0).k ≤ 25 ∧ (l.getD i r0).s ≤ 11 ∧ (l.getD i r0).u ≤ 1 ∧ -2 ≤ (l.getD i r0).v ∧ (l.getD i r0).v ≤ 4
  up : ∀ i, i + 1 < l.length → (l.getD i r0).k ≤ (l.getD (i + 1) r0).k

theorem Led.ok {l : List R} (h : Led l) : Ok l :=
  ⟨by have := h.few; omega, fun i hi => by have := h.at_ i hi; omega, h.up⟩

theorem led_of {l : List R} {cs : List Nat} {m : Nat} (h : Made l cs) (hc : Times cs m) (hm : m ≤ 25) (hl : l.length = cs.length) (hn : l.length ≤ 11) : Led l :=
  ⟨hn, fun i hi => by have h1 := h.at_ i hi; have h2 := hc.le i (by omega); omega, fun i hi => by
    have h1 := h.at_ i (by omega)
    have h2 := h.at_ (i + 1) hi
    have h3 := hc.up i (by omega)
    omega⟩

def LRel (T B : Nat) (w2 : World) (cs : List Nat) (k : Nat) (v : Value) (wr : World) : Prop :=
  ∃ l : List R, l.length = k ∧ Made l cs ∧ wr.ownsRow B 57 4 v k (recs l) ∧ w2.grownBy wr (some T) ∧ TapeOk wr T

def LedPost (T : Nat) (w : World) (e : Ending) (w' : World) : Prop :=
  ∃ (A : Option Addr) (n c : Nat) (l : List R), e = .returned (.slice A n c) ∧ Lies w' A n l ∧ Led l ∧ (A = none → n = 0 ∧ c = 0) ∧ n ≤ c ∧ c ≤ maxLen ∧ (∀ a, A = some a → w.heap.size ≤ a.block ∧ a.spot = none) ∧ w.grownBy w' (some T) ∧ TapeOk w' T

set_option maxRecDepth 100000 in
set_option maxHeartbeats 1000000 in
theorem ledger_any (T : Nat) (w : World) (h : TapeOk w T) (hTw : T < w.heap.size) :
    Calls Try.prog 33 #[.pointer (some ⟨T, 0, none⟩)] w (LedPost T w) := by
  obtain ⟨i0, hi, hz0, hz1, hz2⟩ := info_parts zinfo57
  have HTK := Lib.hid h
  have HI := Lib.hid hi
  have HI0 := Lib.hid hz0
  have HI1 := Lib.hid hz1
  have HI2 := Lib.hid hz2
  clear h hi hz0 hz1 hz2
  go_enter Try.func33, Try.ntmps33
  go_wp2_with fail
  refine (next_any T 12 _ HTK.out (by omega) (by omega)).mono ?_
  rintro e w0 ⟨r, hr0, hr1, rfl, hg0, ht0⟩
  obtain ⟨N, rfl⟩ : ∃ m : Nat, r = m := ⟨r.toNat, by omega⟩
  have HG0 := Lib.hid hg0
  have HT0 := Lib.hid ht0
  have hs0 := hg0.size
  clear hg0 ht0
  go_wp2_with fail
  refine (clock_any T N _ HT0.out (by omega) (by omega)).mono ?_
  rintro e w2 ⟨vc, now, rfl, cs, m, rfl, hm, hcl, hts, hrow, hg2, ht2⟩
  have hs2 := hg2.size
  have hN : N ≤ 11 := by omega
  have HTS := Lib.hid hts
  have HG2 := Lib.hid (gb_trans HG0.out hg2)
  have HT2 := Lib.hid ht2
  clear hg2 ht2 hts
  have hrow2 := hrow
  obtain ⟨CA, cc, rfl, hcc⟩ : ∃ CA cc, vc = .slice CA N cc ∧ (∀ i, i < N → ∃ g, CA = some ⟨g, 0, none⟩ ∧ g < w2.heap.size ∧ T < g ∧ w2.cell? ⟨g, i, none⟩ = some (.int .i64 (cs.getD i 0 : Nat))) := by
    rcases hrow.2 with ⟨rfl, rfl⟩ | ⟨g, cap, cur, rfl, hb, hh, hnc, hcm, _⟩
    · exact ⟨none, 0, rfl, fun i hi => absurd hi (by omega)⟩
    · refine ⟨_, _, rfl, fun i hi => ⟨g, rfl, row_lt hh, by omega, ?_⟩⟩
      rw [hrow2.cellAt i (by omega)]
      simp [i64s, List.getD_eq_getElem?_getD]
      rw [List.getElem?_eq_getElem (by omega)]
      exact ⟨_, rfl, rfl⟩
  have HCC := Lib.hid hcc
  clear hcc hrow hrow2
  go_wp2_with fail
  go_loopw [3, 11] (fun v i wr => ∃ k : Nat, k ≤ N ∧ i = .int .i64 k ∧ LRel T w2.heap.size w2 cs k v wr) (fun _ i _ => N - (intOf i).toNat)
  case atStart => exact ⟨0, by omega, rfl, [], rfl, ⟨by simp⟩, World.ownsRow_nil _ _ _ _, World.grownBy.refl _ _, HT2.out⟩
  case round =>
    obtain ⟨k, hk, rfl, l, hl, hmd, hrow, hg, ht⟩ := hrel
    have hsz := hg.size
    by_cases hlt : k < N
    · obtain ⟨g, rfl, hgl, hTg, hcell⟩ := HCC.out k hlt
      have hcell2 : wr.cell? ⟨g, k, none⟩ = some (.int .i64 (cs.getD k 0 : Nat)) := (World.cell?_of_block (w := w2) (hg.block g hgl (by simp; omega))).trans hcell
      have HMD := Lib.hid hmd
      have HROW := Lib.hid hrow
      have HG := Lib.hid hg
      have HT := Lib.hid ht
      have HL := Lib.hid hl
      clear hrow hg ht hmd hcell hl
      have hk0 : (0 : Int) ≤ (k : Int) := by omega
      have hk1 : (k : Int) < (N : Int) := by omega
      generalize hx : cs.getD k 0 = x at *
      have HX := Lib.hid hx
      clear hx
      go_wp2_with fail
      refine (next_any T 12 _ HT.out (by omega) (by omega)).mono ?_
      rintro e w3 ⟨r, hr0, hr1, rfl, hg3, ht3⟩
      obtain ⟨s, rfl⟩ : ∃ m : Nat, r = m := ⟨r.toNat, by omega⟩
      have hs3 := hg3.size
      have HG3 := Lib.hid hg3
      have HT3 := Lib.hid ht3
      clear hg3 ht3 hcell2
      go_wp2_with fail
      refine (next_any T 2 _ HT3.out (by omega) (by omega)).mono ?_
      rintro e w4 ⟨r, hr0', hr1', rfl, hg4, ht4⟩
      obtain ⟨u, rfl⟩ : ∃ m : Nat, r = m := ⟨r.toNat, by omega⟩
      have hs4 := hg4.size
      have HG4 := Lib.hid hg4
      have HT4 := Lib.hid ht4
      clear hg4 ht4
      go_wp2_with fail
      refine (between_any T (-2) 4 _ HT4.out (by omega) (by omega) (by omega) (by omega)).mono ?_
      rintro e w5 ⟨y, hy0, hy1, rfl, hg5, ht5⟩
      have hs5 := hg5.size
      have HG5 := Lib.hid (gb_trans (gb_trans HG3.out HG4.out) hg5)
      have HT5 := Lib.hid ht5
      clear hg5 ht5
      go_wp2_with (at_builtin; refine wpList_append_own _ rfl (.tmp 15) (.tmp 24) 55 rfl w2.heap.size 57 i0 _ 4 32 Try.underlying55 HI.out HI0.out HI1.out HI2.out rfl (by decide) _ k (recs l) rfl ((row_next (by omega) HROW.out HG5.out).alloc _) ⟨w5.heap.size, 0, none⟩ 1 1 (recC ⟨x, s, u, y⟩).toList rfl rfl (World.news_of_block (heap_alloc_new w5 _)) (fun z hz => recs_one [⟨x, s, u, y⟩] z (by simpa [recs] using hz)) (by unfold maxLen; omega) (by omega) (by simp; omega) ?_; intro v' w6 hown hgr _; have HOWN := Lib.hid hown; have HGR := Lib.hid hgr; clear hown hgr)
      have hob : ∀ g, u3.ownBlock = some g → w2.heap.size ≤ g := fun g e => (HROW.out.lt g e).1
      refine ⟨⟨k + 1, by omega, by go_num, l ++ [⟨x, s, u, y⟩], by simp [HL.out], HMD.out.snoc _ ⟨by rw [HL.out, HX.out], (show s ≤ 11 by omega), (show u ≤ 1 by omega), (show -2 ≤ y by omega), (show y ≤ 4 by omega)⟩, ?_, grown_on HG.out HG5.out hob (Nat.le_refl _) HGR.out, tape_kept (tape_kept HT5.out (World.grownBy_alloc w5 _ none) (by simp)) HGR.out (fun g e => by have := hob g e; omega)⟩, by simp [intOf]; omega⟩
      rw [recs_snoc]
      exact HOWN.out
    · obtain rfl : k = N := by omega
      have HMD := Lib.hid hmd
      have HROW := Lib.hid hrow
      have HG := Lib.hid hg
      have HT := Lib.hid ht
      have HL := Lib.hid hl
      clear hrow hg ht hmd hl
      go_wp2
      go_ret
      obtain ⟨A, c, rfl, h1, h2, h3, h4, h5⟩ := own_lies HROW.out HL.out
      exact ⟨A, k, c, l, rfl, h1, led_of HMD.out HTS.out (by omega) (by rw [HL.out, hcl]) (by rw [HL.out]; omega), h2, h3, h4, fun a e => ⟨by have := (h5 a e).1; omega, (h5 a e).2⟩, gb_trans HG2.out HG.out, HT.out⟩

end Go.Proofs.Ytgaliinjjonlmaa.Lg
