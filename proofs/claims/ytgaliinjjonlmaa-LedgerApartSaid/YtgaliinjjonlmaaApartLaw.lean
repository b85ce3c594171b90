/-
  The Go function leakresponselaw42.LedgerApart returns true for every list of numbers, and leaves what was there as it was; no conditions.
-/
import Derived.Test.YtgaliinjjonlmaaLgFrame
import Derived.Test.YtgaliinjjonlmaaRows
import Derived.WalkKit
import Derived.ProofKit
import Derived.OpenShut
import Derived.ShutString
import Derived.ChangeOld
import Derived.Below
namespace Go.Proofs.Ytgaliinjjonlmaa.ledgerApart
open Go.ChangeShapes Go.WideShapes Go.ChangeAt Go.RowKit
open Go.ChangeMaps (open_string shut_string)
open Go.Proofs.Ytgaliinjjonlmaa.Tp
open Go.Proofs.Ytgaliinjjonlmaa.Lg
set_option linter.unusedVariables false

/-- The last time of a ledger. -/
structure Last (l : List R) (L : Nat) : Prop where
  bd : L ≤ 25
  eq : 0 < l.length → (l.getD (l.length - 1) r0).k = L

theorem last_ok {l : List R} {L : Nat} (h : Led l) (hL : Last l L) (r : R) (hk : L ≤ r.k) (h1 : r.k ≤ 1000) (h2 : r.s ≤ 1000) (h3 : r.u < 16) (h4 : 0 ≤ r.v) (h5 : r.v ≤ 1000) : Ok (l ++ [r]) :=
  h.ok.snoc r (by have := h.few; omega) ⟨by omega, by omega, h3, by omega, by omega⟩ (fun h0 => by rw [hL.eq h0]; omega)

/-- The records of one subject among the first n. -/
def flt (l : List R) (u : Nat) : Nat → List R
  | 0 => []
  | n + 1 => if (l.getD n r0).u = u then flt l u n ++ [l.getD n r0] else flt l u n

theorem flt_eq (l : List R) (u : Nat) : ∀ n, n ≤ l.length → flt l u n = (l.take n).filter (fun r => decide (r.u = u))
  | 0, _ => rfl
  | n + 1, h => by
    have ih := flt_eq l u n (by omega)
    rw [take_snoc l n (by omega), List.filter_append, ← ih]
    simp only [flt]
    by_cases hu : (l.getD n r0).u = u
    · rw [if_pos hu]
      congr 1
      simp only [List.filter, hu, decide_true]
    · rw [if_neg hu]
      simp only [List.filter, hu, decide_false, List.append_nil]

theorem flt_len (l : List R) (u : Nat) : ∀ n, (flt l u n).length ≤ n
  | 0 => Nat.le_refl _
  | n + 1 => by
    have := flt_len l u n
    simp only [flt]
    split
    · simp; omega
    · omega

theorem flt_mem (l : List R) (u : Nat) : ∀ n, ∀ x ∈ flt l u n, ∃ j, j < n ∧ x = l.getD j r0
  | 0, x, h => by simp [flt] at h
  | n + 1, x, h => by
    simp only [flt] at h
    have ih := flt_mem l u n x
    split at h
    · rcases List.mem_append.1 h with h | h
      · obtain ⟨j, hj, e⟩ := ih h
        exact ⟨j, by omega, e⟩
      · exact ⟨n, by omega, List.mem_singleton.1 h⟩
    · obtain ⟨j, hj, e⟩ := ih h
      exact ⟨j, by omega, e⟩

theorem flt_ok (l : List R) (u : Nat) (h : Led l) : ∀ n, n ≤ l.length → Ok (flt l u n)
  | 0, _ => ⟨by simp [flt], fun i hi => by simp [flt] at hi, fun i hi => by simp [flt] at hi⟩
  | n + 1, hn => by
    have ih := flt_ok l u h n (by omega)
    have hl := flt_len l u n
    have hf := h.few
    have ha := h.at_ n (by omega)
    simp only [flt]
    by_cases hu : (l.getD n r0).u = u
    · rw [if_pos hu]
      refine ih.snoc _ (by omega) (by omega) (fun h0 => ?_)
      obtain ⟨j, hj, e⟩ := flt_mem l u n _ (getD_mem' (flt l u n) ((flt l u n).length - 1) (by omega))
      rw [e]
      exact up_le h.ok n j (by omega) (by omega)
    · rw [if_neg hu]
      exact ih

/-- Between two rounds of the filter. -/
structure Flt (w : World) (T B : Nat) (A : Option Addr) (n : Nat) (l : List R) (u i m : Nat) (v : Value) (wr : World) : Prop where
  own : Lies wr A n l
  row : wr.ownsRow B 57 4 v m (recs (flt l u i))
  len : (flt l u i).length = m
  tp : TapeOk wr T
  bl : Below w.heap.size w wr
  sz : B ≤ wr.heap.size

theorem Flt.below {w wr w' : World} {T B n u i m : Nat} {A : Option Addr} {l : List R} {v : Value} (h : Flt w T B A n l u i m v wr) (hb : Below wr.heap.size wr w') : Flt w T B A n l u i m v w' :=
  ⟨h.own.below hb, h.row.kept (row := none) ⟨hb.os, hb.tape, hb.output, hb.size, fun k hk _ => hb.block k hk⟩ (by cases hv : v.ownBlock <;> simp), h.len, tape_below h.tp hb, h.bl.trans (hb.mono h.bl.size), Nat.le_trans h.sz hb.size⟩

theorem Flt.skip {w wr : World} {T B n u i m : Nat} {A : Option Addr} {l : List R} {v : Value} (h : Flt w T B A n l u i m v wr) (hu : (l.getD i r0).u ≠ u) : Flt w T B A n l u (i + 1) m v wr := by
  have e : flt l u (i + 1) = flt l u i := if_neg hu
  exact ⟨h.own, by rw [e]; exact h.row, by rw [e]; exact h.len, h.tp, h.bl, h.sz⟩

theorem Flt.more {w wr w3 : World} {T B n u i m : Nat} {A : Option Addr} {l : List R} {v v' : Value} {r : R} (h : Flt w T B A n l u i m v wr) (hr : l.getD i r0 = r) (hu : r.u = u) (hA : 0 < n → ∀ a, A = some a → a.block < B) (hT : T < B) (hw : w.heap.size ≤ B) (hown : w3.ownsRow B 57 4 v' (m + 1) (recs (flt l u i) ++ (recC r).toList)) (hg : wr.grownBy w3 v.ownBlock) : Flt w T B A n l u (i + 1) (m + 1) v' w3 := by
  have e : flt l u (i + 1) = flt l u i ++ [r] := by rw [← hr]; exact if_pos (by rw [hr]; exact hu)
  have hob : ∀ g, v.ownBlock = some g → B ≤ g := fun g e => (h.row.lt g e).1
  refine ⟨⟨h.own.len, fun hn => ?_⟩, by rw [e, recs_snoc]; exact hown, by rw [e]; simp [h.len], tape_kept h.tp hg (fun g e => by have := hob g e; omega), ?_, Nat.le_trans h.sz hg.size⟩
  · obtain ⟨b, off, eA, hlt, hc⟩ := h.own.mem hn
    have hbB : b < B := hA hn _ eA
    have hb : ∀ i, w3.cell? ⟨b, i, none⟩ = wr.cell? ⟨b, i, none⟩ := fun i => World.cell?_of_block (w := wr) (a := ⟨b, i, none⟩) (hg.block b hlt (fun e => by have := hob b e.symm; omega))
    refine ⟨b, off, eA, Nat.lt_of_lt_of_le hlt hg.size, fun j hj => ?_⟩
    obtain ⟨h0, h1, h2, h3⟩ := hc j hj
    exact ⟨(hb _).trans h0, (hb _).trans h1, (hb _).trans h2, (hb _).trans h3⟩
  · exact h.bl.grown hg h.bl.size (fun g e => Nat.le_trans hw (hob g e))

theorem agree {l : List R} {n m K U t : Nat} (hn : l.length = n) (hm : (flt l U n).length = m) : bv (flt l U n) (sd (flt l U n) K U t m) = bv l (sd l K U t n) ∧ decide (sd (flt l U n) K U t m = -1) = decide (sd l K U t n = -1) := by
  have h := apart l K U t
  have e : l.filter (fun r => decide (r.u = U)) = flt l U n := by
    rw [flt_eq l U n (by omega), ← hn, List.take_length]
  simp only [e, hn, hm] at h
  exact ⟨h.2.symm, decide_eq_decide.2 h.1.symm⟩

theorem pair2 {w wr : World} {T B n m c cb K U t : Nat} {A A' : Option Addr} {l : List R} {v : Value} (h : Flt w T B A n l U n m v wr) (hl : Lies wr A' m (flt l U n)) (hled : Led l) (hK : K ≤ 1000000) (ht : t ≤ 1000000) :
    ∃ y x1 x2 b, (∀ w', Below wr.heap.size wr w' → Calls Try.prog 38 #[.slice A n c, .int .i64 (K : Int), .int .i64 (U : Int), .int .i64 (t : Int)] w' (belR y x1 b w')) ∧
      (∀ w', Below wr.heap.size wr w' → Calls Try.prog 38 #[.slice A' m cb, .int .i64 (K : Int), .int .i64 (U : Int), .int .i64 (t : Int)] w' (belR y x2 b w')) := by
  have hn := h.own.len
  have hm := h.len
  obtain ⟨e1, e2⟩ := agree (K := K) (t := t) hn hm
  refine ⟨_, _, sd (flt l U n) K U t m, _, fun w' hw => believe_any A n c l K U t w' (h.own.below hw) hled.ok hK ht, fun w' hw => ?_⟩
  have := believe_any A' m cb (flt l U n) K U t w' (hl.below hw) (flt_ok l U hled n (by omega)) hK ht
  rw [e1, e2] at this
  exact this

theorem now_said {A2 : Option Addr} {n c2 q s U : Nat} {y : Int} {l : List R} {w' : World} (hl : l.length = n) (h : Lies w' A2 (n + 1) (l ++ [⟨q, s, U, y⟩])) (hok : Ok (l ++ [⟨q, s, U, y⟩])) (hq : q ≤ 1000000) (hs : s ≤ 1000000) :
    Calls Try.prog 38 #[.slice A2 (n + 1) c2, .int .i64 (q : Int), .int .i64 (U : Int), .int .i64 (s : Int)] w' (belR y (n : Int) true w') := by
  have h1 := believe_any A2 (n + 1) c2 (l ++ [⟨q, s, U, y⟩]) q U s w' h hok hq hs
  have e : sd (l ++ [⟨q, s, U, y⟩]) q U s (n + 1) = n := by
    rw [← hl]
    exact sd_now l ⟨q, s, U, y⟩
  have e2 : bv (l ++ [⟨q, s, U, y⟩]) (n : Int) = y := by
    unfold bv
    rw [if_neg (by omega), Int.toNat_natCast, ← hl, getD_last]
  have e3 : (!decide ((n : Int) = -1)) = true := by
    rw [decide_eq_false (by omega)]
    rfl
  rw [e, e2, e3] at h1
  exact h1

set_option maxRecDepth 100000 in
set_option maxHeartbeats 4000000 in
theorem walk (a0 : Option Addr) (len0 cap0 : Nat) (z0 : List Int) (w : World) (w0 : IsRow .i64 w a0 len0 cap0 z0) :
    Calls Try.prog 14 #[.slice a0 len0 cap0] w fun e w' => e = .returned (.bool true) ∧ Below w.heap.size w w' := by
  have hm := w0.at_.1
  unfold maxLen at hm
  have htp := tape_new w0
  have HTP := Lib.hid htp
  have HBX := Lib.hid (box_below w (.cells #[.slice a0 len0 cap0, .int .i64 0] 27))
  clear w0 htp
  obtain ⟨i0, hi, hz0, hz1, hz2⟩ := info_parts zinfo57
  have HI := Lib.hid hi
  have HI0 := Lib.hid hz0
  have HI1 := Lib.hid hz1
  have HI2 := Lib.hid hz2
  clear hi hz0 hz1 hz2
  by_cases hlen : 200 < len0
  · have hl0 : (200 : Int) < (len0 : Int) := by omega
    go_enter Try.func14, Try.ntmps14
    go_wp2_with (go_at_call 32; refine (awake_any _).mono ?_; rintro e w1 ⟨rfl, hb1⟩; have HB1 := Lib.hid hb1; clear hb1)
    go_ret
    exact ⟨rfl, HB1.out⟩
  · have hl0 : (len0 : Int) ≤ (200 : Int) := by omega
    go_enter Try.func14, Try.ntmps14
    go_wp2_with fail
    refine (ledger_any w.heap.size _ HTP.out (by simp)).mono ?_
    rintro e w1 ⟨A, n, c, l, rfl, hlies, hled, hA, hnc, hcm, hfar, hg1, ht1⟩
    have hlen1 := hlies.len
    have hb1 : Below w.heap.size w w1 := HBX.out.grown hg1 HBX.out.size (fun k e => by cases e; exact Nat.le_refl _)
    have hfa : ∀ a, A = some a → w.heap.size < a.block := fun a e => by have := (hfar a e).1; simp at this; omega
    have hsp : ∀ a, A = some a → a.spot = none := fun a e => (hfar a e).2
    have hs1 := hg1.size
    simp at hs1
    have hnf := hled.few
    have HLED := Lib.hid hled
    have HE := Lib.hid hlies
    have HA := Lib.hid hA
    have HFA := Lib.hid hfa
    have HSP := Lib.hid hsp
    have HT1 := Lib.hid ht1
    have HB1 := Lib.hid hb1
    clear hg1 hlies hled hA hfar hfa hsp ht1 hb1
    rw [hlen1] at hnf
    go_wp2_with fail
    refine (next_any w.heap.size 30 _ HT1.out (by omega) (by omega)).mono ?_
    rintro e w2 ⟨x, hx0, hx1, rfl, hg2, ht2⟩
    obtain ⟨K, rfl⟩ : ∃ m : Nat, x = m := ⟨x.toNat, by omega⟩
    have hs2 := hg2.size
    have HG2 := Lib.hid hg2
    have HT2 := Lib.hid ht2
    clear hg2 ht2 HT1 HTP
    go_wp2_with fail
    refine (next_any w.heap.size 2 _ HT2.out (by omega) (by omega)).mono ?_
    rintro e w3 ⟨x, hy0, hy1, rfl, hg3, ht3⟩
    obtain ⟨U, rfl⟩ : ∃ m : Nat, x = m := ⟨x.toNat, by omega⟩
    have hs3 := hg3.size
    have HG3 := Lib.hid (gb_trans HG2.out hg3)
    have HT3 := Lib.hid ht3
    clear hg3 ht3
    go_wp2_with fail
    refine (next_any w.heap.size 14 _ HT3.out (by omega) (by omega)).mono ?_
    rintro e w4 ⟨x, hu0, hu1, rfl, hg4, ht4⟩
    obtain ⟨t, rfl⟩ : ∃ m : Nat, x = m := ⟨x.toNat, by omega⟩
    have hs4 := hg4.size
    have hg := gb_trans HG3.out hg4
    have hl4 := HE.out.grown hg HFA.out
    have hb4 : Below w.heap.size w w4 := HB1.out.grown hg HB1.out.size (fun k e => by cases e; exact Nat.le_refl _)
    have hAB : 0 < n → ∀ a, A = some a → a.block < w4.heap.size := fun h0 a e => by
      obtain ⟨b, off, e2, hlt, _⟩ := hl4.mem h0
      rw [e] at e2
      cases e2
      exact hlt
    have hTB : w.heap.size < w4.heap.size := by omega
    have HAB := Lib.hid hAB
    have HF4 : Hid (Flt w w.heap.size w4.heap.size A n l U 0 0 (.slice none 0 0) w4) := Lib.hid ⟨hl4, World.ownsRow_nil _ _ _ _, rfl, ht4, hb4, Nat.le_refl _⟩
    clear hg4 ht4 hl4 hb4 hg HE HB1 HG2 HT2 HG3 HT3 hAB
    go_wp2_with fail
    go_loopw [8, 38] (fun v ii wr => ∃ i m : Nat, i ≤ n ∧ m ≤ i ∧ ii = .int .i64 i ∧ Flt w w.heap.size w4.heap.size A n l U i m v wr) (fun _ ii _ => n - (intOf ii).toNat)
    case atStart => exact ⟨0, 0, by omega, by omega, rfl, HF4.out⟩
    case round =>
      obtain ⟨i, m, hin, hmi, rfl, hfl⟩ := hrel
      have HFL := Lib.hid hfl
      by_cases hlt : i < n
      · obtain ⟨b, off, rfl, hbk, hc⟩ := hfl.own.at4 (by omega)
        obtain ⟨c0, c1, c2, c3⟩ := hc i hlt
        obtain ⟨r, hr⟩ : ∃ r, l.getD i r0 = r := ⟨_, rfl⟩
        rw [hr] at c0 c1 c2 c3
        have HR := Lib.hid hr
        clear hfl hc hr
        by_cases hu : r.u = U
        · obtain ⟨rk, rs, ru, rv⟩ := r
          obtain rfl : ru = U := hu
          dsimp only at c0 c1 c2 c3
          have HFB := Lib.hid (HFL.out.below (box_below wr (.cells (recC ⟨rk, rs, ru, rv⟩) 57)))
          go_wp2_with (at_builtin; refine wpList_append_own _ rfl (.tmp 46) (.tmp 48) 55 rfl w4.heap.size 57 i0 _ 4 32 Try.underlying55 HI.out HI0.out HI1.out HI2.out rfl (by decide) _ m (recs (flt l ru i)) rfl (HFB.out.row.alloc _) ⟨wr.heap.size + 1, 0, none⟩ 1 1 (recC ⟨rk, rs, ru, rv⟩).toList rfl rfl (World.news_of_block (heap_alloc2_new wr _ _)) (fun z hz => recs_one [⟨rk, rs, ru, rv⟩] z (by simpa [recs] using hz)) (by unfold maxLen; omega) (by omega) (by have := HFB.out.sz; simp at this ⊢; omega) ?_; intro v' w6 hown hgr _; have HOWN := Lib.hid hown; have HGR := Lib.hid hgr; clear hown hgr)
          have HFC := HFB.out.below (box_below _ (.cells (recC ⟨rk, rs, ru, rv⟩) 57))
          exact ⟨⟨i + 1, m + 1, by omega, by omega, by go_num, HFC.more HR.out rfl HAB.out hTB (by omega) HOWN.out HGR.out⟩, by simp [intOf]; omega⟩
        · have hub : ((r.u : Int) == (U : Int)) = false := beq_eq_false_iff_ne.2 (by omega)
          go_wp2_with fail
          exact ⟨⟨i + 1, m, by omega, by omega, by go_num, (HFL.out.skip (by rw [HR.out]; exact hu)).below (box_below _ _)⟩, by simp [intOf]; omega⟩
      · obtain rfl : n = i := by omega
        obtain ⟨B, cb, rfl, hlb, -⟩ := own_lies hfl.row hfl.len
        obtain ⟨y1, x1, x2, bb, p1, p2⟩ := pair2 (c := c) (cb := cb) (K := K) (t := t) hfl hlb HLED.out (by omega) (by omega)
        have P1 := Lib.hid p1
        have P2 := Lib.hid p2
        have HBR := Lib.hid (Below.refl wr.heap.size wr)
        clear p1 p2 hfl hlb HF4 HI HI0 HI1 HI2
        go_wp2_with fail
        refine (P1.out _ HBR.out).mono ?_
        rintro e w7 ⟨rfl, hb7⟩
        have HB7 := Lib.hid (fun o => hb7.trans ((box_below w7 o).mono hb7.size))
        clear hb7
        go_wp2_with fail
        refine (P2.out _ (HB7.out _)).mono ?_
        rintro e w8 ⟨rfl, hb8⟩
        have hrow := (hb8.block w7.heap.size (by simp)).trans (heap_alloc_new w7 (.cells #[.int .i64 y1, .int .i64 x1] 67))
        have HF8 := Lib.hid (fun o => HFL.out.below (((HB7.out _).trans (hb8.mono (HB7.out _).size)).trans ((box_below w8 o).mono ((HB7.out _).trans (hb8.mono (HB7.out _).size)).size)))
        have c0 : ∀ o, (w8.alloc o).cell? ⟨w7.heap.size, 0, none⟩ = some (.int .i64 y1) := fun o => (World.cell?_alloc_lt _ _ _ (row_lt hrow)).trans (rowFacts hrow).1
        clear hb8 hrow
        by_cases hn0 : n = 0
        · subst hn0
          have hlast : Last l 0 := ⟨by omega, fun h => absurd h (by omega)⟩
          have HLAST := Lib.hid hlast
          clear hlast
          go_wp2_with fail
          refine (next_any w.heap.size 2 _ (HF8.out _).tp (by omega) (by omega)).mono ?_
          rintro e w10 ⟨x, hd0, hd1, rfl, hg2, ht2⟩
          obtain ⟨d, rfl⟩ : ∃ m : Nat, x = m := ⟨x.toNat, by omega⟩
          have hs2 := hg2.size
          have HG2 := Lib.hid hg2
          have HT2 := Lib.hid ht2
          clear hg2 ht2 c0 
          go_wp2_with fail
          refine (next_any w.heap.size 12 _ HT2.out (by omega) (by omega)).mono ?_
          rintro e w11 ⟨x, hv0, hv1, rfl, hg3, ht3⟩
          obtain ⟨s, rfl⟩ : ∃ m : Nat, x = m := ⟨x.toNat, by omega⟩
          have HG3 := Lib.hid (gb_trans HG2.out hg3)
          have HT3 := Lib.hid ht3
          clear hg3 ht3
          go_wp2_with fail
          refine (next_any w.heap.size 9 _ HT3.out (by omega) (by omega)).mono ?_
          rintro e w12 ⟨y, hz0, hz1, rfl, hg5, ht5⟩
          have hg := gb_trans HG3.out hg5
          have hl5 := (HF8.out _).own.grown hg HFA.out
          have hb5 : Below w.heap.size w w12 := (HF8.out _).bl.grown hg (HF8.out _).bl.size (fun k e => by cases e; exact Nat.le_refl _)
          obtain ⟨q, hq⟩ : ∃ q, 0 + d = q := ⟨_, rfl⟩
          have hqi : (d : Int) = (q : Int) := by omega
          have HL5 := Lib.hid (hl5.below (box_below w12 (.cells (recC ⟨q, s, U, y⟩) 57)))
          have HB5 := Lib.hid (hb5.trans ((box_below w12 (.cells (recC ⟨q, s, U, y⟩) 57)).mono hb5.size))
          have HR5 := Lib.hid (heap_alloc_new w12 (.cells (recC ⟨q, s, U, y⟩) 57))
          clear hg5 ht5 hl5 hb5 hg HG2 HT2 HG3 HT3 HF8 HFL HB7 P1 P2 HBR
          have hok2 : Ok (l ++ [⟨q, s, U, y⟩]) := last_ok HLED.out HLAST.out ⟨q, s, U, y⟩ (show 0 ≤ q by omega) (show q ≤ 1000 by omega) (show s ≤ 1000 by omega) (show U < 16 by omega) (show 0 ≤ y by omega) (show y ≤ 1000 by omega)
          have HOK2 := Lib.hid hok2
          have hap := append_any A 0 c l ⟨q, s, U, y⟩ _ HL5.out (fun e => ⟨rfl, (HA.out e).2⟩) HSP.out hnc hcm HLED.out.ok hok2
          have HAP := Lib.hid hap
          clear hok2 hap
          skip
          have hsb : s ≤ 1000000 := by omega
          have hqb : q ≤ 1000000 := by omega
          go_wp2_with (first
            | (go_at_call 48; refine HAP.out.mono ?_; rintro e w13 ⟨A2, c2, rfl, hl6, hf6, hc6, hm6, hb6⟩; have hr13 := (hb6.block w12.heap.size (by simp)).trans HR5.out; have HR13 := Lib.hid hr13; obtain ⟨f0, f1, f2, f3⟩ := recCells w13 _ _ _ hr13; have HN := Lib.hid (now_said (c2 := c2) hlen1 hl6 HOK2.out hqb hsb); have HB13 := Lib.hid (HB5.out.trans (hb6.mono HB5.out.size)); clear hb6 hl6 hf6 hr13)
            | (go_at_call 38; refine HN.out.mono ?_; rintro e w14 ⟨rfl, hb14⟩; have g3 : (∀ o, (w14.alloc o).cell? ⟨w12.heap.size, 3, none⟩ = some (.int .i64 y)) := (fun o => (World.cell?_alloc_lt _ _ _ (Nat.lt_of_lt_of_le (row_lt HR13.out) hb14.size)).trans ((hb14.cell (p := ⟨w12.heap.size, 3, none⟩) (row_lt HR13.out)).trans (recCells w13 _ _ _ HR13.out).2.2.2)); have HB14 := Lib.hid (fun o => (HB13.out.trans (hb14.mono HB13.out.size)).trans ((box_below w14 o).mono (HB13.out.trans (hb14.mono HB13.out.size)).size)); clear hb14 f0 f1 f2 f3)
            | (go_at_call 32; refine (awake_any _).mono ?_; rintro e w15 ⟨rfl, hb15⟩; have HB15 := Lib.hid ((HB14.out _).trans (hb15.mono (HB14.out _).size)); clear hb15))
          go_ret
          exact ⟨rfl, HB15.out⟩
        · have hcell : ∃ b off, A = some ⟨b, off, none⟩ ∧ ∀ o, (w8.alloc o).cell? ⟨b, off + (n - 1) * 4, none⟩ = some (.int .i64 ((l.getD (n - 1) r0).k : Nat)) := by
            obtain ⟨b, off, e, hbk, hc⟩ := (HFL.out.own).at4 (by omega)
            refine ⟨b, off, e, fun o => ?_⟩
            obtain ⟨b2, off2, e2, _, hc2⟩ := (HF8.out o).own.at4 (by omega)
            rw [e] at e2
            cases e2
            exact (hc2 (n - 1) (by omega)).1
          obtain ⟨b, off, rfl, hcell⟩ := hcell
          have hk25 := (HLED.out.at_ (n - 1) (by omega)).1
          obtain ⟨L, hL⟩ : ∃ L, (l.getD (n - 1) r0).k = L := ⟨_, rfl⟩
          have hlast : Last l L := ⟨by omega, fun h => by rw [hlen1]; exact hL⟩
          have HLAST := Lib.hid hlast
          rw [hL] at hcell hk25
          clear hlast hL
          have hn1 : 0 < n := by omega
          have i0 : (0 : Int) ≤ (n : Int) - 1 := by omega
          have i1 : (n : Int) - 1 < (n : Int) := by omega
          have i2 : ((n : Int) - 1).toNat = n - 1 := by omega
          clear hn0
          go_wp2_with fail
          refine (next_any w.heap.size 2 _ (HF8.out _).tp (by omega) (by omega)).mono ?_
          rintro e w10 ⟨x, hd0, hd1, rfl, hg2, ht2⟩
          obtain ⟨d, rfl⟩ : ∃ m : Nat, x = m := ⟨x.toNat, by omega⟩
          have hs2 := hg2.size
          have HG2 := Lib.hid hg2
          have HT2 := Lib.hid ht2
          clear hg2 ht2 c0 hcell i0 i1 i2
          go_wp2_with fail
          refine (next_any w.heap.size 12 _ HT2.out (by omega) (by omega)).mono ?_
          rintro e w11 ⟨x, hv0, hv1, rfl, hg3, ht3⟩
          obtain ⟨s, rfl⟩ : ∃ m : Nat, x = m := ⟨x.toNat, by omega⟩
          have HG3 := Lib.hid (gb_trans HG2.out hg3)
          have HT3 := Lib.hid ht3
          clear hg3 ht3
          go_wp2_with fail
          refine (next_any w.heap.size 9 _ HT3.out (by omega) (by omega)).mono ?_
          rintro e w12 ⟨y, hz0, hz1, rfl, hg5, ht5⟩
          have hg := gb_trans HG3.out hg5
          have hl5 := (HF8.out _).own.grown hg HFA.out
          have hb5 : Below w.heap.size w w12 := (HF8.out _).bl.grown hg (HF8.out _).bl.size (fun k e => by cases e; exact Nat.le_refl _)
          obtain ⟨q, hq⟩ : ∃ q, L + d = q := ⟨_, rfl⟩
          have hqi : (L : Int) + (d : Int) = (q : Int) := by omega
          have HL5 := Lib.hid (hl5.below (box_below w12 (.cells (recC ⟨q, s, U, y⟩) 57)))
          have HB5 := Lib.hid (hb5.trans ((box_below w12 (.cells (recC ⟨q, s, U, y⟩) 57)).mono hb5.size))
          have HR5 := Lib.hid (heap_alloc_new w12 (.cells (recC ⟨q, s, U, y⟩) 57))
          clear hg5 ht5 hl5 hb5 hg HG2 HT2 HG3 HT3 HF8 HFL HB7 P1 P2 HBR
          have hok2 : Ok (l ++ [⟨q, s, U, y⟩]) := last_ok HLED.out HLAST.out ⟨q, s, U, y⟩ (show L ≤ q by omega) (show q ≤ 1000 by omega) (show s ≤ 1000 by omega) (show U < 16 by omega) (show 0 ≤ y by omega) (show y ≤ 1000 by omega)
          have HOK2 := Lib.hid hok2
          have hap := append_any (some ⟨b, off, none⟩) n c l ⟨q, s, U, y⟩ _ HL5.out HA.out HSP.out hnc hcm HLED.out.ok hok2
          have HAP := Lib.hid hap
          clear hok2 hap
          rw [hqi]
          have hsb : s ≤ 1000000 := by omega
          have hqb : q ≤ 1000000 := by omega
          go_wp2_with (first
            | (go_at_call 48; refine HAP.out.mono ?_; rintro e w13 ⟨A2, c2, rfl, hl6, hf6, hc6, hm6, hb6⟩; have hr13 := (hb6.block w12.heap.size (by simp)).trans HR5.out; have HR13 := Lib.hid hr13; obtain ⟨f0, f1, f2, f3⟩ := recCells w13 _ _ _ hr13; have HN := Lib.hid (now_said (c2 := c2) hlen1 hl6 HOK2.out hqb hsb); have HB13 := Lib.hid (HB5.out.trans (hb6.mono HB5.out.size)); clear hb6 hl6 hf6 hr13)
            | (go_at_call 38; refine HN.out.mono ?_; rintro e w14 ⟨rfl, hb14⟩; have g3 : (∀ o, (w14.alloc o).cell? ⟨w12.heap.size, 3, none⟩ = some (.int .i64 y)) := (fun o => (World.cell?_alloc_lt _ _ _ (Nat.lt_of_lt_of_le (row_lt HR13.out) hb14.size)).trans ((hb14.cell (p := ⟨w12.heap.size, 3, none⟩) (row_lt HR13.out)).trans (recCells w13 _ _ _ HR13.out).2.2.2)); have HB14 := Lib.hid (fun o => (HB13.out.trans (hb14.mono HB13.out.size)).trans ((box_below w14 o).mono (HB13.out.trans (hb14.mono HB13.out.size)).size)); clear hb14 f0 f1 f2 f3)
            | (go_at_call 32; refine (awake_any _).mono ?_; rintro e w15 ⟨rfl, hb15⟩; have HB15 := Lib.hid ((HB14.out _).trans (hb15.mono (HB14.out _).size)); clear hb15))
          go_ret
          exact ⟨rfl, HB15.out⟩

/-! ### THE ROW's STEP: WRITTEN OUT: LEAVE IT -/
set_option maxRecDepth 100000 in
theorem lifted (os : Os) (started : os.Started) (H : Type) (enc : TypeId × Value → H) :
    ReturnsInHanded {} Try.checked os 14 .any (Rows.ledgerApartSpec.pre6 enc Try.prog Try.f14 Rows.ledgerApartRow.domain false) (Rows.ledgerApartSpec.post enc Try.prog Try.f14 false true false false) := by
  refine returnsInHanded_of_change (C := Try.checked) own started (by kernel_rfl) Try.func14
    (ChangeSpec.witness6 (enc := enc) (C := Try.checked) false ⟨#[], #[.slice none 0 0], []⟩ 8 (by kernel_rfl) (by kernel_rfl) (by kernel_rfl) (by kernel_rfl)) ?_
  intro W base args ds gs before hval0 hW hcnd _
  have hval : ∀ (j : Nat) t v, Try.f14.params[j]? = some t → args[j]? = some v → Value.okWide Try.prog W .any base t v := hval0
  have hW' := hW
  obtain ⟨p, q, hA0, hV, rfl, hfz, hnd⟩ := hW
  have hA : DataW.TrodAll enc Try.prog W 0 (fun _ => true) true Try.f14.params.toList args.toList ds p := hA0
  rw [Try.params14] at hA hval
  obtain ⟨v0, vs0, d0, ds0, p0, q0, hargs, rfl, rfl, h0, r0⟩ := trodAll_cons hA
  obtain ⟨rfl, rfl, rfl⟩ := trodAll_nil r0
  obtain rfl : args = #[v0] := by cases args; simp_all
  obtain ⟨rfl, rfl⟩ := trodVars_none hV
  obtain ⟨a0, len0, cap0, rfl⟩ := okWide_slice Try.underlying22 (hval 0 22 v0 rfl rfl)
  have k0 := h0
  have lt0 : ∀ x ∈ p0, x.block < W.heap.size := by obtain ⟨m, hm⟩ := k0; exact DataW.trod_lt m _ _ _ hm
  obtain ⟨z0, w0⟩ : ∃ zs, IsRow .i64 W a0 len0 cap0 zs := by
    obtain ⟨fuel, hf⟩ := h0
    rcases open_ints Try.underlying22 Try.underlying3 (by kernel_rfl) hf with ⟨hcs, _⟩ | ⟨x, l, c, zs, hcs, _, hl, hm, hz, _, hcell, hwz⟩
    · simp [Value.cells] at hcs
      obtain ⟨rfl, rfl, rfl⟩ := hcs
      exact ⟨[], .inl ⟨rfl, rfl, rfl, rfl⟩⟩
    · simp [Value.cells] at hcs
      obtain ⟨rfl, rfl, rfl⟩ := hcs
      exact ⟨zs, .inr ⟨_, rfl, hl, hm, by simpa using hz, hcell, hwz⟩⟩
  clear hA0 hval0
  refine (walk a0 len0 cap0 z0 W w0).mono fun e W' ⟨he, bel⟩ => ?_
  subst he
  exact ⟨_, rfl, _, _, _, [], _, [], hW', trodAll_mk1 (shut_bool Try.underlying4 _), (trodAll_cons_mk (Below.trod laidOut (by kernel_rfl) (of_decide_eq_true (by kernel_rfl)) k0 bel lt0) trodAll_mk0), rfl, bel.frame _, fun h => by cases h⟩

theorem over : Rows.ledgerApartRow.holds Try.pinned (OpenSpec.ofChange Rows.ledgerApartSpec) :=
  OpenClaim.holds_of_wide 14 Try.f14 rfl rfl rfl rfl rfl rfl rfl ⟨rfl, rfl, rfl, rfl, rfl⟩ rfl rfl rfl rfl rfl (by kernel_rfl) Try.func14 (by kernel_rfl)
    (of_decide_eq_true (by kernel_rfl)) (by unfold Func.isWrapper; first | (rw [if_pos (by decide +kernel)]; kernel_rfl) | (rw [if_neg (by decide +kernel)]; exact ⟨rfl, rfl⟩))
    (fun os started H enc _ => lifted os started H enc)

/-- ████ THE STATEMENT ████ -/
theorem proved : Rows.LedgerApartSaid := over
#print axioms proved
end Go.Proofs.Ytgaliinjjonlmaa.ledgerApart
