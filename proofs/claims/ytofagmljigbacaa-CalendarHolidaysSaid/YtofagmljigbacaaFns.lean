import Derived.Test.YtofagmljigbacaaRows
import Derived.Test.YtofagmljigbacaaMath
import Derived.WalkKit
import Derived.Lib.Hide
import Derived.WalkSpells
import Derived.WalkLawsBesides
import Derived.Deep.QuietTactic
import Derived.BigQuiet
import Derived.Laws.BitsLemmas
import Derived.Laws.Rows
namespace Go.Proofs.Ytofagmljigbacaa.Cal
open Go.RowKit

/-- The holidays as they lie in memory: ascending, few. -/
structure Hol (w : World) (A : Option Addr) (n : Nat) (hs : List Nat) : Prop where
  len : hs.length = n
  few : n ≤ 40
  small : ∀ h ∈ hs, h ≤ 100000
  up : ∀ i j, i < j → j < n → hs.getD i 0 < hs.getD j 0
  mem : 0 < n → ∃ b off, A = some ⟨b, off, none⟩ ∧ b < w.heap.size ∧ ∀ j, j < n → w.cell? ⟨b, off + j, none⟩ = some (.int .i64 (hs.getD j 0 : Nat))

theorem Hol.below {w w' : World} {A : Option Addr} {n : Nat} {hs : List Nat} (h : Hol w A n hs) (hb : Below w.heap.size w w') : Hol w' A n hs :=
  ⟨h.len, h.few, h.small, h.up, fun hn => by
    obtain ⟨b, off, e, hlt, hc⟩ := h.mem hn
    exact ⟨b, off, e, Nat.lt_of_lt_of_le hlt hb.size, fun j hj => (hb.cell (p := ⟨b, off + j, none⟩) hlt).trans (hc j hj)⟩⟩

theorem getD_mem {hs : List Nat} {i : Nat} (h : i < hs.length) : hs.getD i 0 ∈ hs := by
  rw [List.getD_eq_getElem?_getD, List.getElem?_eq_getElem h]
  exact List.getElem_mem h

theorem mem_getD {hs : List Nat} {x : Nat} (h : x ∈ hs) : ∃ i, i < hs.length ∧ hs.getD i 0 = x := by
  obtain ⟨i, hi, e⟩ := List.getElem_of_mem h
  exact ⟨i, hi, by rw [List.getD_eq_getElem?_getD, List.getElem?_eq_getElem hi]; exact e⟩

set_option maxHeartbeats 400000 in
theorem less_any (x y : Int) (w : World) : Calls Try.prog 31 #[.int .i64 x, .int .i64 y] w fun e w' => e = .returned (.bool (decide (x < y))) ∧ w = w' := by
  by_cases h : x < y
  · have hd : decide (x < y) = true := by simpa using h
    go_enter Try.func31, Try.ntmps31
    go_wp2
    go_ret
    exact ⟨by first | rfl | (rw [hd]; rfl) | simp [h], rfl⟩
  · have hd : decide (x < y) = false := by simpa using h
    go_enter Try.func31, Try.ntmps31
    go_wp2
    go_ret
    exact ⟨by first | rfl | (rw [hd]; rfl) | simp [h], rfl⟩

def Found (hs : List Nat) (x : Nat) (w : World) (e : Ending) (w' : World) : Prop := ∃ i : Int, e = .returned (.tuple #[.int .i64 i, .bool (decide (x ∈ hs))]) ∧ w = w'

set_option maxRecDepth 100000 in
set_option maxHeartbeats 1000000 in
theorem bin_any (A : Option Addr) (n c x : Nat) (hs : List Nat) (w : World) (h : Hol w A n hs) (_hx : x ≤ 100000000) :
    Calls Try.prog 30 #[.slice A n c, .int .i64 (x : Int)] w (Found hs x w) := by
  have H := Lib.hid h
  have hn40 := h.few
  clear h
  go_enter Try.func30, Try.ntmps30
  go_wp2
  go_loop [7, 8, 9] (fun i j _ => ∃ p q : Nat, p ≤ q ∧ q ≤ n ∧ i = .int .i64 p ∧ j = .int .i64 q ∧ Hid (∀ a, a < p → hs.getD a 0 < x) ∧ Hid (∀ a, q ≤ a → a < n → x ≤ hs.getD a 0)) (fun i j _ => (intOf j).toNat - (intOf i).toNat)
  case atStart => exact ⟨0, n, by omega, by omega, rfl, rfl, fun a ha => absurd ha (by omega), fun a ha hb => absurd ha (by omega)⟩
  case round =>
    obtain ⟨p, q, hpq, hqn, rfl, rfl, HLO, HHI⟩ := hrel
    by_cases hlt : p < q
    · obtain ⟨b, off, rfl, hb, hc⟩ := H.out.mem (by omega)
      have hcell := hc ((p + q) / 2) (by omega)
      have hbig := H.out.small _ (getD_mem (hs := hs) (i := (p + q) / 2) (by rw [H.out.len]; omega))
      clear hc
      by_cases hl : hs.getD ((p + q) / 2) 0 < x
      · have hcon := fun w => less_any ((hs.getD ((p + q) / 2) 0 : Nat) : Int) (x : Int) w
        have hd : decide (((hs.getD ((p + q) / 2) 0 : Nat) : Int) < (x : Int)) = true := decide_eq_true (by omega)
        rw [hd] at hcon
        have HCON := Lib.hid hcon
        have hnew : ∀ a, a < (p + q) / 2 + 1 → hs.getD a 0 < x := by
          intro a ha
          by_cases he : a = (p + q) / 2
          · rw [he]; exact hl
          · have := H.out.up a ((p + q) / 2) (by omega) (by omega)
            omega
        have HNEW := Lib.hid hnew
        clear hcon hd hnew hl
        generalize hs.getD ((p + q) / 2) 0 = y at *
        go_wp2_with (go_at_call 31; refine (HCON.out _).mono ?_; rintro e w' ⟨rfl, rfl⟩)
        go_round
        case rel => exact ⟨(p + q) / 2 + 1, q, by omega, by omega, by go_num, rfl, HNEW.out, HHI⟩
        case measure => simp [intOf]; omega
      · have hcon := fun w => less_any ((hs.getD ((p + q) / 2) 0 : Nat) : Int) (x : Int) w
        have hd : decide (((hs.getD ((p + q) / 2) 0 : Nat) : Int) < (x : Int)) = false := decide_eq_false (by omega)
        rw [hd] at hcon
        have HCON := Lib.hid hcon
        have hnew : ∀ a, (p + q) / 2 ≤ a → a < n → x ≤ hs.getD a 0 := by
          intro a ha han
          by_cases he : a = (p + q) / 2
          · rw [he]; omega
          · have := H.out.up ((p + q) / 2) a (by omega) han
            omega
        have HNEW := Lib.hid hnew
        clear hcon hd hnew hl
        generalize hs.getD ((p + q) / 2) 0 = y at *
        go_wp2_with (go_at_call 31; refine (HCON.out _).mono ?_; rintro e w' ⟨rfl, rfl⟩)
        go_round
        case rel => exact ⟨p, (p + q) / 2, by omega, by omega, rfl, by go_num, HLO, HNEW.out⟩
        case measure => simp [intOf]; omega
    · obtain rfl : p = q := by omega
      by_cases hp : p < n
      · obtain ⟨b, off, rfl, hb, hc⟩ := H.out.mem (by omega)
        have hcell := hc p hp
        have hge := HHI.out p (Nat.le_refl _) hp
        clear hc
        by_cases he : hs.getD p 0 = x
        · have hm : decide (x ∈ hs) = true := by
            have := getD_mem (hs := hs) (i := p) (by rw [H.out.len]; exact hp)
            rw [he] at this
            simpa using this
          have HM := Lib.hid hm
          rw [he] at hcell
          clear hm he hge
          go_wp2
          go_ret2
          exact ⟨_, by rw [HM.out]; rfl, rfl⟩
        · have hm : decide (x ∈ hs) = false := by
            simp
            intro hmem
            obtain ⟨i, hi, e⟩ := mem_getD hmem
            rw [H.out.len] at hi
            rcases Nat.lt_trichotomy i p with h1 | h1 | h1
            · have := HLO.out i h1
              omega
            · subst h1
              exact he e
            · have := H.out.up p i h1 hi
              omega
          have HM := Lib.hid hm
          have hne : (((hs.getD p 0 : Nat) : Int) == (x : Int)) = false := beq_eq_false_iff_ne.2 (by omega)
          clear hm
          generalize hs.getD p 0 = y at *
          clear he
          go_wp2
          go_ret2
          exact ⟨_, by rw [HM.out]; rfl, rfl⟩
      · have hm : decide (x ∈ hs) = false := by
          simp
          intro hmem
          obtain ⟨i, hi, e⟩ := mem_getD hmem
          rw [H.out.len] at hi
          have := HLO.out i (by omega)
          omega
        have HM := Lib.hid hm
        clear hm
        go_wp2
        go_ret2
        exact ⟨_, by rw [HM.out]; rfl, rfl⟩
end Go.Proofs.Ytofagmljigbacaa.Cal
