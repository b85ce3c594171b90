import Derived.Test.YtgaliinjjonlmaaLgFrame
namespace Go.Proofs.Ytgaliinjjonlmaa.Lg
open Go.RowKit
open Go.Proofs.Ytgaliinjjonlmaa.Tp
set_option linter.unusedVariables false

theorem zinfo67 : (Try.prog.info? 67).map (fun i => (i.zero, i.size, i.bytes)) = some (some (.agg #[.int .i64 0, .int .i64 0]), 2, 16) := by kernel_rfl

/-- The cells of what is believed, one behind the other. -/
def bcs (l : List R) : List Nat → List Value
  | [] => []
  | x :: xs => [.int .i64 (bv l (x : Int)), .int .i64 (x : Int)] ++ bcs l xs

theorem bcs_len (l : List R) : ∀ xs, (bcs l xs).length = xs.length * 2
  | [] => rfl
  | x :: xs => by
    have := bcs_len l xs
    simp [bcs, this]
    omega

theorem bcs_snoc (l : List R) : ∀ (xs : List Nat) (x : Nat), bcs l (xs ++ [x]) = bcs l xs ++ [.int .i64 (bv l (x : Int)), .int .i64 (x : Int)]
  | [], x => by simp [bcs]
  | y :: xs, x => by simp [bcs, bcs_snoc l xs x]

theorem bcs_at (l : List R) : ∀ (xs : List Nat) (j : Nat), j < xs.length → (bcs l xs)[j * 2]? = some (.int .i64 (bv l ((xs.getD j 0 : Nat) : Int))) ∧ (bcs l xs)[j * 2 + 1]? = some (.int .i64 ((xs.getD j 0 : Nat) : Int))
  | [], j, h => absurd h (by simp)
  | y :: xs, 0, h => by simp [bcs]
  | y :: xs, j + 1, h => by
    have ih := bcs_at l xs j (by simpa using h)
    simp only [bcs]
    rw [List.getElem?_append_right (by simp; omega), List.getElem?_append_right (by simp; omega)]
    have e1 : (j + 1) * 2 - [Value.int .i64 (bv l (y : Int)), Value.int .i64 (y : Int)].length = j * 2 := by simp; omega
    have e2 : (j + 1) * 2 + 1 - [Value.int .i64 (bv l (y : Int)), Value.int .i64 (y : Int)].length = j * 2 + 1 := by simp; omega
    rw [e1, e2, ih.1, ih.2]
    simp

theorem bcs_one (l : List R) : ∀ xs, ∀ u ∈ bcs l xs, u.oneCell' = true
  | [], u, h => by simp [bcs] at h
  | x :: xs, u, h => by
    rcases List.mem_append.1 h with h | h
    · simp at h
      rcases h with rfl | rfl <;> rfl
    · exact bcs_one l xs u h

/-- Beliefs as they lie in memory. -/
structure Bels (w : World) (A : Option Addr) (m : Nat) (l : List R) (xs : List Nat) : Prop where
  len : xs.length = m
  mem : 0 < m → ∃ b, A = some ⟨b, 0, none⟩ ∧ b < w.heap.size ∧ ∀ j, j < m → w.cell? ⟨b, j * 2, none⟩ = some (.int .i64 (bv l ((xs.getD j 0 : Nat) : Int))) ∧ w.cell? ⟨b, j * 2 + 1, none⟩ = some (.int .i64 ((xs.getD j 0 : Nat) : Int))

theorem Bels.below {w w' : World} {A : Option Addr} {m : Nat} {l : List R} {xs : List Nat} (h : Bels w A m l xs) (hb : Below w.heap.size w w') : Bels w' A m l xs :=
  ⟨h.len, fun hn => by
    obtain ⟨b, e, hlt, hc⟩ := h.mem hn
    exact ⟨b, e, Nat.lt_of_lt_of_le hlt hb.size, fun j hj => ⟨(hb.cell (p := ⟨b, _, none⟩) hlt).trans (hc j hj).1, (hb.cell (p := ⟨b, _, none⟩) hlt).trans (hc j hj).2⟩⟩⟩

theorem own_bels {w : World} {base m : Nat} {v : Value} {l : List R} {xs : List Nat} (h : w.ownsRow base 67 2 v m (bcs l xs)) (hl : xs.length = m) : ∃ A c, v = .slice A m c ∧ Bels w A m l xs := by
  rcases h.2 with ⟨rfl, rfl⟩ | ⟨g, cap, cur, rfl, hb, hh, hnc, hcm, _⟩
  · exact ⟨none, 0, rfl, hl, fun h => absurd h (by omega)⟩
  · refine ⟨_, _, rfl, hl, fun h0 => ⟨g, rfl, row_lt hh, fun j hj => ?_⟩⟩
    have := bcs_at l xs j (by omega)
    exact ⟨by rw [h.cellAt (j * 2) (by omega), this.1], by rw [h.cellAt (j * 2 + 1) (by omega), this.2]⟩

/-- One round: what is said changes, or not. -/
theorem ch_round (l : List R) (u t i : Nat) (hok : Ok l) (hi : i < l.length) : (sd l (l.getD i r0).k u t l.length = lst l u t i ∧ ch l u t (i + 1) = ch l u t i) ∨
    (sd l (l.getD i r0).k u t l.length ≠ lst l u t i ∧ ∃ x : Nat, sd l (l.getD i r0).k u t l.length = x ∧ x < l.length ∧ ch l u t (i + 1) = ch l u t i ++ [x]) := by
  have h := ch_step l u t i hok hi
  have hb := sd_bd l (l.getD i r0).k u t l.length
  have hmono : lst l u t i ≤ sd l (l.getD i r0).k u t l.length := by
    cases i with
    | zero => exact hb.1
    | succ i => exact F_up hok (hok.up i hi)
  have hl : -1 ≤ lst l u t i := by
    cases i with
    | zero => simp [lst]
    | succ i => exact (sd_bd _ _ _ _ _).1
  by_cases e : sd l (l.getD i r0).k u t l.length = lst l u t i
  · exact .inl ⟨e, by rw [h, if_pos e]⟩
  · refine .inr ⟨e, (sd l (l.getD i r0).k u t l.length).toNat, by omega, by omega, by rw [h, if_neg e]⟩

def CRes (w : World) (l : List R) (xs : List Nat) (e : Ending) (w' : World) : Prop := ∃ A c, e = .returned (.tuple #[.slice A xs.length c, .int .i64 0]) ∧ Bels w' A xs.length l xs ∧ Below w.heap.size w w'

theorem ch_len (l : List R) (u t : Nat) : ∀ n, (ch l u t n).length ≤ n
  | 0 => Nat.le_refl _
  | n + 1 => by
    have := ch_len l u t n
    simp only [ch]
    split
    · omega
    · split
      · omega
      · simp; omega

/-- Between two rounds of Changes. -/
structure Chg (w : World) (l : List R) (U t i m : Nat) (v z : Value) (wr : World) : Prop where
  z : z = .int .i64 (lst l U t i)
  row : wr.ownsRow w.heap.size 67 2 v m (bcs l (ch l U t i))
  len : (ch l U t i).length = m
  bl : Below w.heap.size w wr

theorem Chg.below {w wr w' : World} {l : List R} {U t i m : Nat} {v z : Value} (h : Chg w l U t i m v z wr) (hb : Below wr.heap.size wr w') : Chg w l U t i m v z w' :=
  ⟨h.z, h.row.kept (row := none) ⟨hb.os, hb.tape, hb.output, hb.size, fun k hk _ => hb.block k hk⟩ (by cases hv : v.ownBlock <;> simp), h.len, h.bl.trans (hb.mono h.bl.size)⟩

theorem Chg.same {w wr : World} {l : List R} {U t i m : Nat} {v z : Value} (h : Chg w l U t i m v z wr) (e1 : lst l U t (i + 1) = lst l U t i) (e2 : ch l U t (i + 1) = ch l U t i) : Chg w l U t (i + 1) m v z wr :=
  ⟨by rw [h.z, e1], by rw [e2]; exact h.row, by rw [e2]; exact h.len, h.bl⟩

theorem Chg.more {w wr w6 : World} {l : List R} {U t i m x : Nat} {v z v' : Value} (h : Chg w l U t i m v z wr) (e1 : lst l U t (i + 1) = x) (e2 : ch l U t (i + 1) = ch l U t i ++ [x])
    (hown : w6.ownsRow w.heap.size 67 2 v' (m + 1) (bcs l (ch l U t i) ++ [.int .i64 (bv l (x : Int)), .int .i64 (x : Int)])) (hg : wr.grownBy w6 v.ownBlock) : Chg w l U t (i + 1) (m + 1) v' (.int .i64 (x : Int)) w6 :=
  ⟨by rw [e1], by rw [e2, bcs_snoc]; exact hown, by rw [e2]; simp [h.len], h.bl.grown hg h.bl.size (fun g e => (h.row.lt g e).1)⟩

set_option maxRecDepth 100000 in
set_option maxHeartbeats 2000000 in
theorem changes_any (A : Option Addr) (n c : Nat) (l : List R) (U t : Nat) (w : World) (h : Lies w A n l) (hok : Ok l) (ht : t ≤ 1000000) :
    Calls Try.prog 44 #[.slice A n c, .int .i64 (U : Int), .int .i64 (t : Int)] w (CRes w l (ch l U t n)) := by
  have hlen := h.len
  have hn : n ≤ 100 := by have := hok.few; omega
  have HLI := Lib.hid (fun w' (hw : Below w.heap.size w w') => h.below hw)
  have HCK := Lib.hid (check_any A n c l w h hok)
  have HOK := Lib.hid hok
  have HLN := Lib.hid hlen
  obtain ⟨i0, hi, hz0, hz1, hz2⟩ := info_parts zinfo67
  have HI := Lib.hid hi
  have HI0 := Lib.hid hz0
  have HI1 := Lib.hid hz1
  have HI2 := Lib.hid hz2
  clear hi hz0 hz1 hz2 h hok hlen
  go_enter Try.func44, Try.ntmps44
  go_wp2_with (go_at_call 36; refine HCK.out.mono ?_; rintro e w1 ⟨rfl, hb1⟩; have HB1 := Lib.hid hb1; clear hb1)
  go_loopw [9, 10, 23] (fun v z ii wr => ∃ i m : Nat, i ≤ n ∧ m ≤ i ∧ ii = .int .i64 i ∧ Chg w l U t i m v z wr) (fun _ _ ii _ => n - (intOf ii).toNat)
  case atStart => exact ⟨0, 0, by omega, by omega, rfl, rfl, World.ownsRow_nil _ _ _ _, rfl, HB1.out⟩
  case round =>
    obtain ⟨i, m, hin, hmi, rfl, hch⟩ := hrel
    have hzz := hch.z
    subst hzz
    have HCH := Lib.hid hch
    by_cases hlt : i < n
    · obtain ⟨b, off, rfl, hbk, hc⟩ := (HLI.out _ hch.bl).at4 (by omega)
      obtain ⟨c0, c1, c2, c3⟩ := hc i hlt
      have hbd := HOK.out.bd i (by rw [HLN.out]; exact hlt)
      have hround := ch_round l U t i HOK.out (by rw [HLN.out]; exact hlt)
      rw [HLN.out] at hround
      have hlst : lst l U t (i + 1) = sd l (l.getD i r0).k U t n := by
        show sd l (l.getD i r0).k U t l.length = _
        rw [HLN.out]
      have HLS := Lib.hid hlst
      have HCH1 := Lib.hid (fun o => HCH.out.bl.trans ((box_below wr o).mono HCH.out.bl.size))
      have hsaid := fun o => said_any (some ⟨b, off, none⟩) n c l (l.getD i r0).k U t (wr.alloc o) (HLI.out _ (HCH1.out o)) hn hbd.1 ht
      clear hc hch hlst
      obtain ⟨r, hr⟩ : ∃ r, l.getD i r0 = r := ⟨_, rfl⟩
      rw [hr] at c0 c1 c2 c3 hround hsaid hbd HLS
      have hbf := fun w' (hw : Below w.heap.size w w') => belief_any (some ⟨b, off, none⟩) n c l (sd l r.k U t n) w' (HLI.out w' hw) hn (sd_bd l r.k U t n).1 (sd_bd l r.k U t n).2
      have HSAID := Lib.hid hsaid
      have HBF := Lib.hid hbf
      clear hsaid hbf hr
      rcases hround with ⟨e1, e2⟩ | ⟨e1, x, e3, hx, e2⟩
      · rw [e1] at HSAID HLS
        have E2 := Lib.hid e2
        clear e1 e2 HBF
        go_wp2_with (go_at_call 71; refine (HSAID.out _).mono ?_; rintro e w2 ⟨rfl, hb2⟩; have HB2 := Lib.hid ((box_below wr (.cells (recC r) 57)).trans (hb2.mono (box_below wr (.cells (recC r) 57)).size)); clear hb2)
        exact ⟨⟨i + 1, m, by omega, by omega, by go_num, (HCH.out.same HLS.out E2.out).below HB2.out⟩, by simp [intOf]; omega⟩
      · rw [e3] at HSAID HBF HLS e1
        have E2 := Lib.hid e2
        have hne : ((x : Int) == lst l U t i) = false := beq_eq_false_iff_ne.2 e1
        clear e1 e2 e3
        generalize lst l U t i = z at *
        have hm2 : m ≤ 100 := by omega
        go_wp2_with (first
          | (go_at_call 71; refine (HSAID.out _).mono ?_; rintro e w2 ⟨rfl, hb2⟩; have HB2 := Lib.hid ((box_below wr (.cells (recC r) 57)).trans (hb2.mono (box_below wr (.cells (recC r) 57)).size)); clear hb2)
          | (go_at_call 70; refine (HBF.out _ (HCH.out.bl.trans (HB2.out.mono HCH.out.bl.size))).mono ?_; rintro e w3 ⟨rfl, hb3⟩; have HB3 := Lib.hid (HB2.out.trans (hb3.mono HB2.out.size)); have HC3 := Lib.hid ((HCH.out.below HB3.out).below (box_below w3 (.cells #[.int .i64 (bv l (x : Int)), .int .i64 (x : Int)] 67))); clear hb3)
          | (at_builtin; go_loud (refine wpList_append_own _ rfl (.tmp 42) (.tmp 44) 74 rfl w.heap.size 67 i0 _ 2 16 Try.underlying74 HI.out HI0.out HI1.out HI2.out rfl (by decide) _ m (bcs l (ch l U t i)) rfl (HC3.out.row.alloc _) ⟨w3.heap.size + 1, 0, none⟩ 1 1 [.int .i64 (bv l (x : Int)), .int .i64 (x : Int)] rfl rfl (World.news_of_block (cs := #[.int .i64 (bv l (x : Int)), .int .i64 (x : Int)]) (heap_alloc2_new w3 _ _)) (fun z hz => bcs_one l [x] z (by simpa [bcs] using hz)) (by unfold maxLen; omega) (by omega) (by have := HC3.out.bl.size; simp at this ⊢; omega) ?_); intro v' w6 hown hgr _; have HOWN := Lib.hid hown; have HGR := Lib.hid hgr; clear hown hgr))
        have HC4 := HC3.out.below (box_below _ (.cells #[.int .i64 (bv l (x : Int)), .int .i64 (x : Int)] 67))
        exact ⟨⟨i + 1, m + 1, by omega, by omega, by go_num, HC4.more HLS.out E2.out HOWN.out HGR.out⟩, by simp [intOf]; omega⟩
    · obtain rfl : n = i := by omega
      go_wp2
      go_ret2
      obtain ⟨B, cb, rfl, hb⟩ := own_bels HCH.out.row HCH.out.len
      have hm := HCH.out.len
      subst hm
      exact ⟨B, cb, rfl, hb, HCH.out.bl⟩

end Go.Proofs.Ytgaliinjjonlmaa.Lg
