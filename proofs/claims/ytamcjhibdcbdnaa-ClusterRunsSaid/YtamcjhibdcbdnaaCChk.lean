import Derived.Test.YtamcjhibdcbdnaaCMem
import Derived.WalkKit
import Derived.Lib.Hide
import Derived.WalkSpells
import Derived.WalkLawsBesides
import Derived.Deep.QuietTactic
import Derived.BigQuiet
import Derived.Laws.Rows
namespace Go.Proofs.Ytamcjhibdcbdnaa.Cl
open Go.RowKit
open Go.Proofs.Ytamcjhibdcbdnaa.Tp
set_option linter.unusedVariables false

def fi (p : Nat → Bool) : Nat → Nat → Int
  | 0, _ => -1
  | n + 1, i => if p i then (i : Int) else fi p n (i + 1)
def anyB (p : Nat → Bool) : Nat → Bool
  | 0 => false
  | n + 1 => anyB p n || p n

theorem any_iff (p : Nat → Bool) : ∀ n, anyB p n = true ↔ ∃ i, i < n ∧ p i = true
  | 0 => by simp [anyB]
  | n + 1 => by
    rw [anyB, Bool.or_eq_true, any_iff p n]
    constructor
    · rintro (⟨i, h1, h2⟩ | h)
      · exact ⟨i, by omega, h2⟩
      · exact ⟨n, by omega, h⟩
    · rintro ⟨i, h1, h2⟩
      by_cases e : i = n
      · exact .inr (by rw [← e]; exact h2)
      · exact .inl ⟨i, by omega, h2⟩
theorem any_no {p : Nat → Bool} {n : Nat} (h : ∀ i, i < n → p i = false) : anyB p n = false := by
  cases ha : anyB p n with
  | false => rfl
  | true =>
    obtain ⟨i, h1, h2⟩ := (any_iff p n).1 ha
    rw [h i h1] at h2
    cases h2
theorem no_any {p : Nat → Bool} {n : Nat} (h : anyB p n = false) (i : Nat) (hi : i < n) : p i = false := by
  cases hp : p i with
  | false => rfl
  | true =>
    rw [(any_iff p n).2 ⟨i, hi, hp⟩] at h
    cases h

theorem fi_step (p : Nat → Bool) (n k : Nat) (h : k < n) : (p k = true → fi p (n - k) k = (k : Int)) ∧ (p k = false → fi p (n - k) k = fi p (n - (k + 1)) (k + 1)) := by
  obtain ⟨m, hm⟩ : ∃ m, n - k = m + 1 := ⟨n - k - 1, by omega⟩
  have e : n - (k + 1) = m := by omega
  rw [hm, e]
  exact ⟨fun h => by rw [fi, if_pos h], fun h => by rw [fi, if_neg (by rw [h]; decide)]⟩
theorem fi_all (p : Nat → Bool) : ∀ n i, (fi p n i = -1 ∧ ∀ j, j < n → p (i + j) = false) ∨ ∃ j, j < n ∧ fi p n i = ((i + j : Nat) : Int) ∧ p (i + j) = true ∧ ∀ l, l < j → p (i + l) = false
  | 0, i => .inl ⟨rfl, fun j h => absurd h (by omega)⟩
  | n + 1, i => by
    by_cases h : p i = true
    · exact .inr ⟨0, by omega, by rw [fi, if_pos h]; rfl, h, fun l hl => absurd hl (by omega)⟩
    · have h0 : p i = false := by simpa using h
      rw [fi, if_neg h]
      have sh : ∀ j, p (i + 1 + j) = p (i + (j + 1)) := fun j => by rw [Nat.add_assoc, Nat.add_comm 1 j]
      rcases fi_all p n (i + 1) with ⟨h1, h2⟩ | ⟨j, h1, h2, h3, h4⟩
      · refine .inl ⟨h1, fun j hj => ?_⟩
        cases j with
        | zero => exact h0
        | succ j => rw [← sh]; exact h2 j (by omega)
      · refine .inr ⟨j + 1, by omega, by rw [h2]; congr 1; omega, by rw [← sh]; exact h3, fun l hl => ?_⟩
        cases l with
        | zero => exact h0
        | succ l => rw [← sh]; exact h4 l (by omega)
theorem fi_none (p : Nat → Bool) (n : Nat) (h : anyB p n = false) : fi p n 0 = -1 := by
  rcases fi_all p n 0 with ⟨h1, _⟩ | ⟨j, h1, h2, h3, h4⟩
  · exact h1
  · rw [no_any h (0 + j) (by omega)] at h3
    cases h3
theorem fi_some (p : Nat → Bool) (n : Nat) (h : anyB p n = true) : ∃ q : Nat, fi p n 0 = (q : Int) := by
  rcases fi_all p n 0 with ⟨h1, h2⟩ | ⟨j, h1, h2, h3, h4⟩
  · obtain ⟨i, hi, hp⟩ := (any_iff p n).1 h
    have := h2 i hi
    rw [Nat.zero_add, hp] at this
    cases this
  · exact ⟨_, h2⟩

theorem num_yes (n m : Nat) (w : World) (h : n < m) (hm : m ≤ 1000000) : Calls Try.prog 52 #[.int .i64 (n : Int), .int .i64 (m : Int)] w fun e w' => e = .returned (.bool true) ∧ w = w' := by
  have h0 : decide ((0 : Int) ≤ (n : Int)) = true := decide_eq_true (by omega)
  have h1 : decide (n < m) = true := decide_eq_true (by omega)
  have h2 : decide ((n : Int) < (m : Int)) = true := decide_eq_true (by omega)
  go_enter Try.func52, Try.ntmps52
  go_wp2
  go_ret
  exact ⟨by first | rfl | simp, rfl⟩
theorem num_no (n m : Nat) (w : World) (h : m ≤ n) (hm : n ≤ 1000000) : Calls Try.prog 52 #[.int .i64 (n : Int), .int .i64 (m : Int)] w fun e w' => e = .returned (.bool false) ∧ w = w' := by
  have h0 : decide ((0 : Int) ≤ (n : Int)) = true := decide_eq_true (by omega)
  have h1 : decide (n < m) = false := decide_eq_false (by omega)
  have h2 : decide ((n : Int) < (m : Int)) = false := decide_eq_false (by omega)
  go_enter Try.func52, Try.ntmps52
  go_wp2
  go_ret
  exact ⟨by first | rfl | simp, rfl⟩
theorem bits_yes (n : Nat) (w : World) (h : n ≤ 3) : Calls Try.prog 53 #[.int .i64 (n : Int)] w fun e w' => e = .returned (.bool true) ∧ w = w' := by
  have h0 : decide ((0 : Int) ≤ (n : Int)) = true := decide_eq_true (by omega)
  have h2 : decide ((n : Int) ≤ 3) = true := decide_eq_true (by omega)
  go_enter Try.func53, Try.ntmps53
  go_wp2
  go_ret
  exact ⟨by first | rfl | simp, rfl⟩
theorem wset_call (n : Nat) (w : World) (h : n ≤ 3) : Calls Try.prog 58 #[.int .i64 (n : Int)] w fun e w' => e = .returned (.bool false) ∧ Below w.heap.size w w' := by
  go_enter Try.func58, Try.ntmps58
  go_wp2_with (go_at_call 53; refine (bits_yes n _ h).mono ?_; rintro e w' ⟨rfl, rfl⟩)
  go_ret
  exact ⟨rfl, Below.refl _ _⟩
theorem wnum_call (n g m cc : Nat) (A : Option Addr) (w : World) (h : n < m) (hm : m ≤ 1000) (hg : w.cell? ⟨g, 1, none⟩ = some (.slice A m cc)) : Calls Try.prog 59 #[.int .i64 (n : Int), .pointer (some ⟨g, 0, none⟩)] w fun e w' => e = .returned (.bool false) ∧ Below w.heap.size w w' := by
  go_enter Try.func59, Try.ntmps59
  go_wp2_with (go_at_call 52; refine (num_yes n m _ h (by omega)).mono ?_; rintro e w' ⟨rfl, rfl⟩)
  go_ret
  exact ⟨rfl, Below.refl _ _⟩
theorem wrep_call (n g k m cc : Nat) (s : Bool) (A : Option Addr) (w : World) (h : n < m) (hm : m ≤ 1000) (hk : w.cell? ⟨k, 0, none⟩ = some (.func (.func 59) #[] #[.pointer (some ⟨g, 0, none⟩)])) (hkl : k < w.heap.size) (hg : w.cell? ⟨g, 1, none⟩ = some (.slice A m cc)) (hgl : g < w.heap.size) :
    Calls Try.prog 60 #[.agg #[.int .i64 (n : Int), .bool s], .pointer (some ⟨k, 0, none⟩)] w fun e w' => e = .returned (.bool false) ∧ Below w.heap.size w w' := by
  have HB := Lib.hid (box_below w (.cells #[.int .i64 (n : Int), .bool s] 60))
  have hk2 : ∀ o, (w.alloc o).cell? ⟨k, 0, none⟩ = some (.func (.func 59) #[] #[.pointer (some ⟨g, 0, none⟩)]) := fun o => (World.cell?_alloc_lt _ _ _ hkl).trans hk
  have HG := Lib.hid (fun o => (World.cell?_alloc_lt w o (a := ⟨g, 1, none⟩) hgl).trans hg)
  clear hk hg
  go_enter Try.func60, Try.ntmps60
  go_wp2_with (go_at_call 59; refine (wnum_call n g m cc A _ h hm (HG.out _)).mono ?_; rintro e w' ⟨rfl, hb⟩; have HB2 := Lib.hid (HB.out.trans (hb.mono HB.out.size)); clear hb)
  go_ret
  exact ⟨rfl, HB2.out⟩

set_option maxRecDepth 100000 in
set_option maxHeartbeats 400000 in
theorem wset_idx (l : List Nat) (A : Option Addr) (n c : Nat) (p : Nat → Bool) (w : World) (hn : n ≤ 1000) (h : Row w 0 1 A n (iv l))
    (hp : ∀ i, i < n → ∀ w', Below w.heap.size w w' → Calls Try.prog 58 (#[.int .i64 ((l.getD i 0 : Nat) : Int)] ++ #[]) w' fun e w'' => e = .returned (.bool (p i)) ∧ Below w'.heap.size w' w'') :
    Calls Try.prog 71 #[.slice A n c, .func (.func 58) #[] #[]] w fun e w' => e = .returned (.int .i64 (fi p n 0)) ∧ Below w.heap.size w w' := by
  have H := Lib.hid h
  have HP := Lib.hid hp
  clear h hp
  go_enter Try.func71, Try.ntmps71
  go_wp2
  go_loopw [8] (fun i wr => ∃ k : Nat, k ≤ n ∧ i = .int .i64 k ∧ fi p n 0 = fi p (n - k) k ∧ Below w.heap.size w wr) (fun i _ => n - (intOf i).toNat)
  case atStart => exact ⟨0, by omega, rfl, rfl, Below.refl _ _⟩
  case round =>
    obtain ⟨k, hk, rfl, hfi, hbl⟩ := hrel
    have HBL := Lib.hid hbl
    have HF := Lib.hid hfi
    clear hfi
    by_cases hlt : k < n
    · obtain ⟨b, off, rfl, hB, hbk, c0⟩ := (H.out.below hbl).int hlt
      have HC := Lib.hid (HP.out k hlt wr hbl)
      have HFI := Lib.hid (fi_step p n k hlt)
      clear hbl
      cases hpk : p k with
      | true =>
        rw [hpk] at HC
        have HPK := Lib.hid hpk
        clear hpk
        go_wp2_with (go_at_call 58; refine HC.out.mono ?_; rintro e w2 ⟨rfl, hb2⟩; have HB2 := Lib.hid (HBL.out.trans (hb2.mono HBL.out.size)); clear hb2)
        go_ret
        refine ⟨?_, HB2.out⟩
        rw [HF.out, HFI.out.1 HPK.out]
        rfl
      | false =>
        rw [hpk] at HC
        have HPK := Lib.hid hpk
        clear hpk
        go_wp2_with (go_at_call 58; refine HC.out.mono ?_; rintro e w2 ⟨rfl, hb2⟩; have HB2 := Lib.hid (HBL.out.trans (hb2.mono HBL.out.size)); clear hb2)
        exact ⟨⟨k + 1, by omega, by go_num, by rw [HF.out, HFI.out.2 HPK.out], HB2.out⟩, by simp [intOf]; omega⟩
    · obtain rfl : n = k := by omega
      go_wp2
      go_ret
      exact ⟨by rw [HF.out, Nat.sub_self]; rfl, HBL.out⟩

set_option maxRecDepth 100000 in
set_option maxHeartbeats 400000 in
theorem wset_any (l : List Nat) (A : Option Addr) (n c : Nat) (p : Nat → Bool) (w : World) (hn : n ≤ 1000) (h : Row w 0 1 A n (iv l))
    (hp : ∀ i, i < n → ∀ w', Below w.heap.size w w' → Calls Try.prog 58 (#[.int .i64 ((l.getD i 0 : Nat) : Int)] ++ #[]) w' fun e w'' => e = .returned (.bool (p i)) ∧ Below w'.heap.size w' w'') :
    Calls Try.prog 61 #[.slice A n c, .func (.func 58) #[] #[]] w fun e w' => e = .returned (.bool (anyB p n)) ∧ Below w.heap.size w w' := by
  have HC := Lib.hid (wset_idx l A n c p w hn h hp)
  clear h hp
  cases ha : anyB p n with
  | false =>
    rw [fi_none p n ha] at HC
    clear ha
    go_enter Try.func61, Try.ntmps61
    go_wp2_with (go_at_call 71; refine HC.out.mono ?_; rintro e w' ⟨rfl, hb⟩; have HB := Lib.hid hb; clear hb)
    go_ret
    exact ⟨rfl, HB.out⟩
  | true =>
    obtain ⟨q, hq⟩ := fi_some p n ha
    rw [hq] at HC
    clear ha hq
    have hd : decide ((0 : Int) ≤ (q : Int)) = true := decide_eq_true (by omega)
    go_enter Try.func61, Try.ntmps61
    go_wp2_with (go_at_call 71; refine HC.out.mono ?_; rintro e w' ⟨rfl, hb⟩; have HB := Lib.hid hb; clear hb)
    go_ret
    exact ⟨by first | rfl | simp, HB.out⟩

set_option maxRecDepth 100000 in
set_option maxHeartbeats 400000 in
theorem wnum_idx (l : List Nat) (g : Nat) (A : Option Addr) (n c : Nat) (p : Nat → Bool) (w : World) (hn : n ≤ 1000) (h : Row w 0 1 A n (iv l))
    (hp : ∀ i, i < n → ∀ w', Below w.heap.size w w' → Calls Try.prog 59 (#[.int .i64 ((l.getD i 0 : Nat) : Int)] ++ #[.pointer (some ⟨g, 0, none⟩)]) w' fun e w'' => e = .returned (.bool (p i)) ∧ Below w'.heap.size w' w'') :
    Calls Try.prog 71 #[.slice A n c, .func (.func 59) #[] #[.pointer (some ⟨g, 0, none⟩)]] w fun e w' => e = .returned (.int .i64 (fi p n 0)) ∧ Below w.heap.size w w' := by
  have H := Lib.hid h
  have HP := Lib.hid hp
  clear h hp
  go_enter Try.func71, Try.ntmps71
  go_wp2
  go_loopw [8] (fun i wr => ∃ k : Nat, k ≤ n ∧ i = .int .i64 k ∧ fi p n 0 = fi p (n - k) k ∧ Below w.heap.size w wr) (fun i _ => n - (intOf i).toNat)
  case atStart => exact ⟨0, by omega, rfl, rfl, Below.refl _ _⟩
  case round =>
    obtain ⟨k, hk, rfl, hfi, hbl⟩ := hrel
    have HBL := Lib.hid hbl
    have HF := Lib.hid hfi
    clear hfi
    by_cases hlt : k < n
    · obtain ⟨b, off, rfl, hB, hbk, c0⟩ := (H.out.below hbl).int hlt
      have HC := Lib.hid (HP.out k hlt wr hbl)
      have HFI := Lib.hid (fi_step p n k hlt)
      clear hbl
      cases hpk : p k with
      | true =>
        rw [hpk] at HC
        have HPK := Lib.hid hpk
        clear hpk
        go_wp2_with (go_at_call 59; refine HC.out.mono ?_; rintro e w2 ⟨rfl, hb2⟩; have HB2 := Lib.hid (HBL.out.trans (hb2.mono HBL.out.size)); clear hb2)
        go_ret
        refine ⟨?_, HB2.out⟩
        rw [HF.out, HFI.out.1 HPK.out]
        rfl
      | false =>
        rw [hpk] at HC
        have HPK := Lib.hid hpk
        clear hpk
        go_wp2_with (go_at_call 59; refine HC.out.mono ?_; rintro e w2 ⟨rfl, hb2⟩; have HB2 := Lib.hid (HBL.out.trans (hb2.mono HBL.out.size)); clear hb2)
        exact ⟨⟨k + 1, by omega, by go_num, by rw [HF.out, HFI.out.2 HPK.out], HB2.out⟩, by simp [intOf]; omega⟩
    · obtain rfl : n = k := by omega
      go_wp2
      go_ret
      exact ⟨by rw [HF.out, Nat.sub_self]; rfl, HBL.out⟩

set_option maxRecDepth 100000 in
set_option maxHeartbeats 400000 in
theorem wnum_any (l : List Nat) (g : Nat) (A : Option Addr) (n c : Nat) (p : Nat → Bool) (w : World) (hn : n ≤ 1000) (h : Row w 0 1 A n (iv l))
    (hp : ∀ i, i < n → ∀ w', Below w.heap.size w w' → Calls Try.prog 59 (#[.int .i64 ((l.getD i 0 : Nat) : Int)] ++ #[.pointer (some ⟨g, 0, none⟩)]) w' fun e w'' => e = .returned (.bool (p i)) ∧ Below w'.heap.size w' w'') :
    Calls Try.prog 61 #[.slice A n c, .func (.func 59) #[] #[.pointer (some ⟨g, 0, none⟩)]] w fun e w' => e = .returned (.bool (anyB p n)) ∧ Below w.heap.size w w' := by
  have HC := Lib.hid (wnum_idx l g A n c p w hn h hp)
  clear h hp
  cases ha : anyB p n with
  | false =>
    rw [fi_none p n ha] at HC
    clear ha
    go_enter Try.func61, Try.ntmps61
    go_wp2_with (go_at_call 71; refine HC.out.mono ?_; rintro e w' ⟨rfl, hb⟩; have HB := Lib.hid hb; clear hb)
    go_ret
    exact ⟨rfl, HB.out⟩
  | true =>
    obtain ⟨q, hq⟩ := fi_some p n ha
    rw [hq] at HC
    clear ha hq
    have hd : decide ((0 : Int) ≤ (q : Int)) = true := decide_eq_true (by omega)
    go_enter Try.func61, Try.ntmps61
    go_wp2_with (go_at_call 71; refine HC.out.mono ?_; rintro e w' ⟨rfl, hb⟩; have HB := Lib.hid hb; clear hb)
    go_ret
    exact ⟨by first | rfl | simp, HB.out⟩

set_option maxRecDepth 100000 in
set_option maxHeartbeats 400000 in
theorem wrep_idx (l : List (Nat × Bool)) (g : Nat) (A : Option Addr) (n c : Nat) (p : Nat → Bool) (w : World) (hn : n ≤ 1000) (h : Row w 0 2 A n (rv l))
    (hp : ∀ i, i < n → ∀ w', Below w.heap.size w w' → Calls Try.prog 60 (#[.agg #[.int .i64 (((rd l i).1 : Nat) : Int), .bool (rd l i).2]] ++ #[.pointer (some ⟨g, 0, none⟩)]) w' fun e w'' => e = .returned (.bool (p i)) ∧ Below w'.heap.size w' w'') :
    Calls Try.prog 72 #[.slice A n c, .func (.func 60) #[] #[.pointer (some ⟨g, 0, none⟩)]] w fun e w' => e = .returned (.int .i64 (fi p n 0)) ∧ Below w.heap.size w w' := by
  have H := Lib.hid h
  have HP := Lib.hid hp
  clear h hp
  go_enter Try.func72, Try.ntmps72
  go_wp2
  go_loopw [8] (fun i wr => ∃ k : Nat, k ≤ n ∧ i = .int .i64 k ∧ fi p n 0 = fi p (n - k) k ∧ Below w.heap.size w wr) (fun i _ => n - (intOf i).toNat)
  case atStart => exact ⟨0, by omega, rfl, rfl, Below.refl _ _⟩
  case round =>
    obtain ⟨k, hk, rfl, hfi, hbl⟩ := hrel
    have HBL := Lib.hid hbl
    have HF := Lib.hid hfi
    clear hfi
    by_cases hlt : k < n
    · obtain ⟨b, off, rfl, hB, hbk, c0, c1⟩ := (H.out.below hbl).rep hlt
      have HC := Lib.hid (HP.out k hlt wr hbl)
      have HFI := Lib.hid (fi_step p n k hlt)
      clear hbl
      cases hpk : p k with
      | true =>
        rw [hpk] at HC
        have HPK := Lib.hid hpk
        clear hpk
        go_wp2_with (go_at_call 60; refine HC.out.mono ?_; rintro e w2 ⟨rfl, hb2⟩; have HB2 := Lib.hid (HBL.out.trans (hb2.mono HBL.out.size)); clear hb2)
        go_ret
        refine ⟨?_, HB2.out⟩
        rw [HF.out, HFI.out.1 HPK.out]
        rfl
      | false =>
        rw [hpk] at HC
        have HPK := Lib.hid hpk
        clear hpk
        go_wp2_with (go_at_call 60; refine HC.out.mono ?_; rintro e w2 ⟨rfl, hb2⟩; have HB2 := Lib.hid (HBL.out.trans (hb2.mono HBL.out.size)); clear hb2)
        exact ⟨⟨k + 1, by omega, by go_num, by rw [HF.out, HFI.out.2 HPK.out], HB2.out⟩, by simp [intOf]; omega⟩
    · obtain rfl : n = k := by omega
      go_wp2
      go_ret
      exact ⟨by rw [HF.out, Nat.sub_self]; rfl, HBL.out⟩

set_option maxRecDepth 100000 in
set_option maxHeartbeats 400000 in
theorem wrep_any (l : List (Nat × Bool)) (g : Nat) (A : Option Addr) (n c : Nat) (p : Nat → Bool) (w : World) (hn : n ≤ 1000) (h : Row w 0 2 A n (rv l))
    (hp : ∀ i, i < n → ∀ w', Below w.heap.size w w' → Calls Try.prog 60 (#[.agg #[.int .i64 (((rd l i).1 : Nat) : Int), .bool (rd l i).2]] ++ #[.pointer (some ⟨g, 0, none⟩)]) w' fun e w'' => e = .returned (.bool (p i)) ∧ Below w'.heap.size w' w'') :
    Calls Try.prog 62 #[.slice A n c, .func (.func 60) #[] #[.pointer (some ⟨g, 0, none⟩)]] w fun e w' => e = .returned (.bool (anyB p n)) ∧ Below w.heap.size w w' := by
  have HC := Lib.hid (wrep_idx l g A n c p w hn h hp)
  clear h hp
  cases ha : anyB p n with
  | false =>
    rw [fi_none p n ha] at HC
    clear ha
    go_enter Try.func62, Try.ntmps62
    go_wp2_with (go_at_call 72; refine HC.out.mono ?_; rintro e w' ⟨rfl, hb⟩; have HB := Lib.hid hb; clear hb)
    go_ret
    exact ⟨rfl, HB.out⟩
  | true =>
    obtain ⟨q, hq⟩ := fi_some p n ha
    rw [hq] at HC
    clear ha hq
    have hd : decide ((0 : Int) ≤ (q : Int)) = true := decide_eq_true (by omega)
    go_enter Try.func62, Try.ntmps62
    go_wp2_with (go_at_call 72; refine HC.out.mono ?_; rintro e w' ⟨rfl, hb⟩; have HB := Lib.hid hb; clear hb)
    go_ret
    exact ⟨by first | rfl | simp, HB.out⟩

end Go.Proofs.Ytamcjhibdcbdnaa.Cl
