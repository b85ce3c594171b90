/-
  The Go function leakresponselaw42.LedgerPast returns true for every list of numbers, and leaves what was there as it was; no conditions.
-/
import Derived.Test.YtgaliinjjonlmaaLgFrame
import Derived.Test.YtgaliinjjonlmaaRows
import Derived.WalkKit
import Derived.ProofKit
import Derived.OpenShut
import Derived.ShutString
import Derived.ChangeOld
import Derived.Below
namespace Go.Proofs.Ytgaliinjjonlmaa.ledgerPast
open Go.ChangeShapes Go.WideShapes Go.ChangeAt Go.RowKit
open Go.ChangeMaps (open_string shut_string)
open Go.Proofs.Ytgaliinjjonlmaa.Tp
open Go.Proofs.Ytgaliinjjonlmaa.Lg
set_option linter.unusedVariables false

/-- The last time of a ledger. -/
structure Last (l : List R) (L : Nat) : Prop where
  bd : L ≤ 25
  eq : 0 < l.length → (l.getD (l.length - 1) r0).k = L

theorem last_ok {l : List R} {L : Nat} (h : Led l) (hL : Last l L) (r : R) (hk : L < r.k) (h1 : r.k ≤ 1000) (h2 : r.s ≤ 1000) (h3 : r.u < 16) (h4 : 0 ≤ r.v) (h5 : r.v ≤ 1000) : Ok (l ++ [r]) :=
  h.ok.snoc r (by have := h.few; omega) ⟨by omega, by omega, h3, by omega, by omega⟩ (fun h0 => by rw [hL.eq h0]; omega)

theorem pair {w wr : World} {T n c c2 : Nat} {A B : Option Addr} {l : List R} {r : R} (h : Env w T A n l B (n + 1) (l ++ [r]) wr) (hok : Ok l) (hok2 : Ok (l ++ [r])) (K U t : Nat) (hK : K < r.k) (hK2 : K ≤ 1000000) (ht : t ≤ 1000000) :
    ∃ v x b, (∀ w', Below wr.heap.size wr w' → Calls Try.prog 38 #[.slice A n c, .int .i64 (K : Int), .int .i64 (U : Int), .int .i64 (t : Int)] w' (belR v x b w')) ∧
      (∀ w', Below wr.heap.size wr w' → Calls Try.prog 38 #[.slice B (n + 1) c2, .int .i64 (K : Int), .int .i64 (U : Int), .int .i64 (t : Int)] w' (belR v x b w')) := by
  have hl := h.own.len
  have hb := sd_bd l K U t n
  have e1 : sd (l ++ [r]) K U t (n + 1) = sd l K U t n := by
    rw [← hl]
    exact sd_later l r K U t hK
  have e2 : bv (l ++ [r]) (sd l K U t n) = bv l (sd l K U t n) := by
    unfold bv
    split
    · rfl
    · rw [getD_snoc _ _ _ (by omega)]
  refine ⟨_, _, _, fun w' hw => believe_any A n c l K U t w' (h.own.below hw) hok hK2 ht, fun w' hw => ?_⟩
  have := believe_any B (n + 1) c2 (l ++ [r]) K U t w' (h.more.below hw) hok2 hK2 ht
  rw [e1, e2] at this
  exact this

set_option maxRecDepth 100000 in
set_option maxHeartbeats 4000000 in
theorem walk (a0 : Option Addr) (len0 cap0 : Nat) (z0 : List Int) (w : World) (w0 : IsRow .i64 w a0 len0 cap0 z0) :
    Calls Try.prog 11 #[.slice a0 len0 cap0] w fun e w' => e = .returned (.bool true) ∧ Below w.heap.size w w' := by
  have hm := w0.at_.1
  unfold maxLen at hm
  have htp := tape_new w0
  have HTP := Lib.hid htp
  have HBX := Lib.hid (box_below w (.cells #[.slice a0 len0 cap0, .int .i64 0] 27))
  clear w0 htp
  by_cases hlen : 200 < len0
  · have hl0 : (200 : Int) < (len0 : Int) := by omega
    go_enter Try.func11, Try.ntmps11
    go_wp2_with (go_at_call 32; refine (awake_any _).mono ?_; rintro e w1 ⟨rfl, hb1⟩; have HB1 := Lib.hid hb1; clear hb1)
    go_ret
    exact ⟨rfl, HB1.out⟩
  · have hl0 : (len0 : Int) ≤ (200 : Int) := by omega
    go_enter Try.func11, Try.ntmps11
    go_wp2_with fail
    refine (ledger_any w.heap.size _ HTP.out (by simp)).mono ?_
    rintro e w1 ⟨A, n, c, l, rfl, hlies, hled, hA, hnc, hcm, hfar, hg1, ht1⟩
    have hlen1 := hlies.len
    have hb1 : Below w.heap.size w w1 := HBX.out.grown hg1 HBX.out.size (fun k e => by cases e; exact Nat.le_refl _)
    have hfa : ∀ a, A = some a → w.heap.size < a.block := fun a e => by have := (hfar a e).1; simp at this; omega
    have hsp : ∀ a, A = some a → a.spot = none := fun a e => (hfar a e).2
    have hs1 := hg1.size
    simp at hs1
    have hnf := hled.few
    have HLED := Lib.hid hled
    have HE := Lib.hid hlies
    have HA := Lib.hid hA
    have HFA := Lib.hid hfa
    have HSP := Lib.hid hsp
    have HT1 := Lib.hid ht1
    have HB1 := Lib.hid hb1
    clear hg1 hlies hled hA hfar hfa hsp ht1 hb1
    rw [hlen1] at hnf
    by_cases hn0 : n = 0
    · subst hn0
      have hlast : Last l 0 := ⟨by omega, fun h => absurd h (by omega)⟩
      have HLAST := Lib.hid hlast
      clear hlast
      go_wp2_with fail
      refine (next_any w.heap.size 3 _ HT1.out (by omega) (by omega)).mono ?_
      rintro e w2 ⟨x, hx0, hx1, rfl, hg2, ht2⟩
      obtain ⟨d, rfl⟩ : ∃ m : Nat, x = m := ⟨x.toNat, by omega⟩
      have hs2 := hg2.size
      have HG2 := Lib.hid hg2
      have HT2 := Lib.hid ht2
      clear hg2 ht2 HT1 HTP 
      go_wp2_with fail
      refine (next_any w.heap.size 12 _ HT2.out (by omega) (by omega)).mono ?_
      rintro e w3 ⟨x, hy0, hy1, rfl, hg3, ht3⟩
      obtain ⟨s, rfl⟩ : ∃ m : Nat, x = m := ⟨x.toNat, by omega⟩
      have hs3 := hg3.size
      have HG3 := Lib.hid (gb_trans HG2.out hg3)
      have HT3 := Lib.hid ht3
      clear hg3 ht3
      go_wp2_with fail
      refine (next_any w.heap.size 2 _ HT3.out (by omega) (by omega)).mono ?_
      rintro e w4 ⟨x, hu0, hu1, rfl, hg4, ht4⟩
      obtain ⟨u, rfl⟩ : ∃ m : Nat, x = m := ⟨x.toNat, by omega⟩
      have hs4 := hg4.size
      have HG4 := Lib.hid (gb_trans HG3.out hg4)
      have HT4 := Lib.hid ht4
      clear hg4 ht4
      go_wp2_with fail
      refine (next_any w.heap.size 9 _ HT4.out (by omega) (by omega)).mono ?_
      rintro e w5 ⟨y, hv0, hv1, rfl, hg5, ht5⟩
      have hs5 := hg5.size
      have hg := gb_trans HG4.out hg5
      have hl5 := HE.out.grown hg HFA.out
      have hb5 : Below w.heap.size w w5 := HB1.out.grown hg HB1.out.size (fun k e => by cases e; exact Nat.le_refl _)
      have HL5 := Lib.hid hl5
      have HB5 := Lib.hid hb5
      have HT5 := Lib.hid ht5
      clear hg5 ht5 hl5 hb5 hg HE HB1 HG2 HT2 HG3 HT3 HG4 HT4
      obtain ⟨q, hq⟩ : ∃ q, 0 + 1 + d = q := ⟨_, rfl⟩
      have hqi : (1 : Int) + (d : Int) = (q : Int) := by omega
      have hok2 : Ok (l ++ [⟨q, s, u, y⟩]) := last_ok HLED.out HLAST.out ⟨q, s, u, y⟩ (show 0 < q by omega) (show q ≤ 1000 by omega) (show s ≤ 1000 by omega) (show u < 16 by omega) (show 0 ≤ y by omega) (show y ≤ 1000 by omega)
      have HOK2 := Lib.hid hok2
      have hap := append_any A 0 c l ⟨q, s, u, y⟩ w5 HL5.out (fun e => ⟨rfl, (HA.out e).2⟩) HSP.out hnc hcm HLED.out.ok hok2
      have HAP := Lib.hid hap
      clear hok2 hap
      rw [hqi]
      go_wp2_with (go_at_call 48; refine HAP.out.mono ?_; rintro e w6 ⟨A2, c2, rfl, hl6, hf6, hc6, hm6, hb6⟩; have hfb : (∀ a, A2 = some a → w.heap.size < a.block) := (fun a e => by have := (hf6 a e).1; omega); have HENV := Lib.hid (Env.mk (HL5.out.below hb6) hl6 HFA.out hfb (tape_below HT5.out hb6) (HB5.out.trans (hb6.mono HB5.out.size)) (Nat.le_refl _)); clear hb6 hl6 hf6 hfb)
      clear HAP HL5 HB5 HT5 HFA HA HSP hqi
      have HPR := Lib.hid (fun wr (h : Env w w.heap.size A 0 l A2 (0 + 1) (l ++ [⟨q, s, u, y⟩]) wr) K U t hK hK2 ht => pair (c := c) (c2 := c2) h HLED.out.ok HOK2.out K U t hK hK2 ht)
      have hqk : 0 + 1 ≤ q := by omega
      clear hq
      go_loopw [8] (fun kk wr => ∃ K : Nat, K ≤ 0 + 3 ∧ kk = .int .i64 K ∧ Env w w.heap.size A 0 l A2 (0 + 1) (l ++ [⟨q, s, u, y⟩]) wr) (fun kk _ => 0 + 4 - (intOf kk).toNat)
      case atStart => exact ⟨0, by omega, rfl, HENV.out⟩
      case round =>
        obtain ⟨K, hK3, rfl, henv⟩ := hrel
        have HEN := Lib.hid henv
        clear henv
        by_cases hK : K ≤ 0
        · obtain rfl : K = 0 := by omega
          have hKd : decide ((0 : Int) ≤ 0) = true := decide_eq_true (by omega)
          go_wp2_with fail
          go_loopw [9] (fun ss wr => ∃ S : Nat, S ≤ 2 ∧ ss = .int .i64 S ∧ Env w w.heap.size A 0 l A2 (0 + 1) (l ++ [⟨q, s, u, y⟩]) wr) (fun ss _ => 2 - (intOf ss).toNat)
          case atStart => exact ⟨0, by omega, rfl, HEN.out⟩
          case round =>
            obtain ⟨S, hS2, rfl, henv⟩ := hrel
            have HEN2 := Lib.hid henv
            clear henv
            by_cases hS : S < 2
            · have hSd : decide ((S : Int) < 2) = true := decide_eq_true (by omega)
              go_wp2_with fail
              go_loopw [10] (fun tt wr => ∃ t : Nat, t ≤ 14 ∧ tt = .int .i64 t ∧ Env w w.heap.size A 0 l A2 (0 + 1) (l ++ [⟨q, s, u, y⟩]) wr) (fun tt _ => 14 - (intOf tt).toNat)
              case atStart => exact ⟨0, by omega, rfl, HEN2.out⟩
              case round =>
                obtain ⟨t, ht14, rfl, henv⟩ := hrel
                have HEN3 := Lib.hid henv
                clear henv
                by_cases ht : t < 14
                · obtain ⟨bv1, bx, bb, p1, p2⟩ := HPR.out _ HEN3.out 0 S t (show 0 < q by omega) (by omega) (by omega)
                  have P1 := Lib.hid p1
                  have P2 := Lib.hid p2
                  have HBR := Lib.hid (Below.refl wr.heap.size wr)
                  clear p1 p2
                  go_wp2_with fail
                  refine (P1.out _ HBR.out).mono ?_
                  rintro e w7 ⟨rfl, hb7⟩
                  have HB7 := Lib.hid (fun o => hb7.trans ((box_below w7 o).mono hb7.size))
                  clear hb7
                  go_wp2_with fail
                  refine (P2.out _ (HB7.out _)).mono ?_
                  rintro e w8 ⟨rfl, hb8⟩
                  have hrow := (hb8.block w7.heap.size (by simp)).trans (heap_alloc_new w7 (.cells #[.int .i64 bv1, .int .i64 bx] 67))
                  have HB8 := Lib.hid (fun o => ((HB7.out _).trans (hb8.mono (HB7.out _).size)).trans ((box_below w8 o).mono ((HB7.out _).trans (hb8.mono (HB7.out _).size)).size))
                  have c0 : ∀ o, (w8.alloc o).cell? ⟨w7.heap.size, 0, none⟩ = some (.int .i64 bv1) := fun o => (World.cell?_alloc_lt _ _ _ (row_lt hrow)).trans (rowFacts hrow).1
                  have c1 : ∀ o, (w8.alloc o).cell? ⟨w7.heap.size, 1, none⟩ = some (.int .i64 bx) := fun o => (World.cell?_alloc_lt _ _ _ (row_lt hrow)).trans (rowFacts hrow).2.1
                  clear hb8 hrow
                  go_wp2_with fail
                  exact ⟨⟨t + 1, by omega, by go_num, HEN3.out.below (HB8.out _)⟩, by simp [intOf]; omega⟩
                · obtain rfl : t = 14 := by omega
                  go_wp2_with fail
                  exact ⟨⟨S + 1, by omega, by go_num, HEN3.out⟩, by simp [intOf]; omega⟩
            · obtain rfl : S = 2 := by omega
              go_wp2_with fail
              refine (next_any w.heap.size 3 _ HEN2.out.tp (by omega) (by omega)).mono ?_
              rintro e w9 ⟨x, hz0, hz1, rfl, hg9, ht9⟩
              obtain ⟨d2, rfl⟩ : ∃ m : Nat, x = m := ⟨x.toNat, by omega⟩
              have HEN4 := Lib.hid (HEN2.out.tape hg9 ht9)
              clear hg9 ht9
              go_wp2_with fail
              exact ⟨⟨1 + d2, by omega, by go_num, HEN4.out⟩, by simp [intOf]; omega⟩
        · go_wp2_with fail
          refine (awake_any _).mono ?_
          rintro e w9 ⟨rfl, hb9⟩
          have HB9 := Lib.hid (HEN.out.bl.trans (hb9.mono HEN.out.bl.size))
          clear hb9
          go_wp2_with fail
          go_ret
          exact ⟨rfl, HB9.out⟩
    · obtain ⟨b, off, rfl, hbk, hc⟩ := HE.out.at4 (by omega)
      have hcell := (hc (n - 1) (by omega)).1
      have hk25 := (HLED.out.at_ (n - 1) (by omega)).1
      obtain ⟨L, hL⟩ : ∃ L, (l.getD (n - 1) r0).k = L := ⟨_, rfl⟩
      have hlast : Last l L := ⟨by omega, fun h => by rw [hlen1]; exact hL⟩
      have HLAST := Lib.hid hlast
      rw [hL] at hcell hk25
      clear hlast hc hL
      have hn1 : 0 < n := by omega
      have i0 : (0 : Int) ≤ (n : Int) - 1 := by omega
      have i1 : (n : Int) - 1 < (n : Int) := by omega
      have i2 : ((n : Int) - 1).toNat = n - 1 := by omega
      clear hn0
      go_wp2_with fail
      refine (next_any w.heap.size 3 _ HT1.out (by omega) (by omega)).mono ?_
      rintro e w2 ⟨x, hx0, hx1, rfl, hg2, ht2⟩
      obtain ⟨d, rfl⟩ : ∃ m : Nat, x = m := ⟨x.toNat, by omega⟩
      have hs2 := hg2.size
      have HG2 := Lib.hid hg2
      have HT2 := Lib.hid ht2
      clear hg2 ht2 HT1 HTP hcell i0 i1 i2
      go_wp2_with fail
      refine (next_any w.heap.size 12 _ HT2.out (by omega) (by omega)).mono ?_
      rintro e w3 ⟨x, hy0, hy1, rfl, hg3, ht3⟩
      obtain ⟨s, rfl⟩ : ∃ m : Nat, x = m := ⟨x.toNat, by omega⟩
      have hs3 := hg3.size
      have HG3 := Lib.hid (gb_trans HG2.out hg3)
      have HT3 := Lib.hid ht3
      clear hg3 ht3
      go_wp2_with fail
      refine (next_any w.heap.size 2 _ HT3.out (by omega) (by omega)).mono ?_
      rintro e w4 ⟨x, hu0, hu1, rfl, hg4, ht4⟩
      obtain ⟨u, rfl⟩ : ∃ m : Nat, x = m := ⟨x.toNat, by omega⟩
      have hs4 := hg4.size
      have HG4 := Lib.hid (gb_trans HG3.out hg4)
      have HT4 := Lib.hid ht4
      clear hg4 ht4
      go_wp2_with fail
      refine (next_any w.heap.size 9 _ HT4.out (by omega) (by omega)).mono ?_
      rintro e w5 ⟨y, hv0, hv1, rfl, hg5, ht5⟩
      have hs5 := hg5.size
      have hg := gb_trans HG4.out hg5
      have hl5 := HE.out.grown hg HFA.out
      have hb5 : Below w.heap.size w w5 := HB1.out.grown hg HB1.out.size (fun k e => by cases e; exact Nat.le_refl _)
      have HL5 := Lib.hid hl5
      have HB5 := Lib.hid hb5
      have HT5 := Lib.hid ht5
      clear hg5 ht5 hl5 hb5 hg HE HB1 HG2 HT2 HG3 HT3 HG4 HT4
      obtain ⟨q, hq⟩ : ∃ q, L + 1 + d = q := ⟨_, rfl⟩
      have hqi : (L : Int) + 1 + (d : Int) = (q : Int) := by omega
      have hok2 : Ok (l ++ [⟨q, s, u, y⟩]) := last_ok HLED.out HLAST.out ⟨q, s, u, y⟩ (show L < q by omega) (show q ≤ 1000 by omega) (show s ≤ 1000 by omega) (show u < 16 by omega) (show 0 ≤ y by omega) (show y ≤ 1000 by omega)
      have HOK2 := Lib.hid hok2
      have hap := append_any (some ⟨b, off, none⟩) n c l ⟨q, s, u, y⟩ w5 HL5.out HA.out HSP.out hnc hcm HLED.out.ok hok2
      have HAP := Lib.hid hap
      clear hok2 hap
      rw [hqi]
      go_wp2_with (go_at_call 48; refine HAP.out.mono ?_; rintro e w6 ⟨A2, c2, rfl, hl6, hf6, hc6, hm6, hb6⟩; have hfb : (∀ a, A2 = some a → w.heap.size < a.block) := (fun a e => by have := (hf6 a e).1; omega); have HENV := Lib.hid (Env.mk (HL5.out.below hb6) hl6 HFA.out hfb (tape_below HT5.out hb6) (HB5.out.trans (hb6.mono HB5.out.size)) (Nat.le_refl _)); clear hb6 hl6 hf6 hfb)
      clear HAP HL5 HB5 HT5 HFA HA HSP hqi
      have HPR := Lib.hid (fun wr (h : Env w w.heap.size (some ⟨b, off, none⟩) n l A2 (n + 1) (l ++ [⟨q, s, u, y⟩]) wr) K U t hK hK2 ht => pair (c := c) (c2 := c2) h HLED.out.ok HOK2.out K U t hK hK2 ht)
      have hqk : L + 1 ≤ q := by omega
      clear hq
      go_loopw [8] (fun kk wr => ∃ K : Nat, K ≤ L + 3 ∧ kk = .int .i64 K ∧ Env w w.heap.size (some ⟨b, off, none⟩) n l A2 (n + 1) (l ++ [⟨q, s, u, y⟩]) wr) (fun kk _ => L + 4 - (intOf kk).toNat)
      case atStart => exact ⟨0, by omega, rfl, HENV.out⟩
      case round =>
        obtain ⟨K, hK3, rfl, henv⟩ := hrel
        have HEN := Lib.hid henv
        clear henv
        by_cases hK : K ≤ L
        · skip
          have hKd : decide ((K : Int) ≤ (L : Int)) = true := decide_eq_true (by omega)
          go_wp2_with fail
          go_loopw [9] (fun ss wr => ∃ S : Nat, S ≤ 2 ∧ ss = .int .i64 S ∧ Env w w.heap.size (some ⟨b, off, none⟩) n l A2 (n + 1) (l ++ [⟨q, s, u, y⟩]) wr) (fun ss _ => 2 - (intOf ss).toNat)
          case atStart => exact ⟨0, by omega, rfl, HEN.out⟩
          case round =>
            obtain ⟨S, hS2, rfl, henv⟩ := hrel
            have HEN2 := Lib.hid henv
            clear henv
            by_cases hS : S < 2
            · have hSd : decide ((S : Int) < 2) = true := decide_eq_true (by omega)
              go_wp2_with fail
              go_loopw [10] (fun tt wr => ∃ t : Nat, t ≤ 14 ∧ tt = .int .i64 t ∧ Env w w.heap.size (some ⟨b, off, none⟩) n l A2 (n + 1) (l ++ [⟨q, s, u, y⟩]) wr) (fun tt _ => 14 - (intOf tt).toNat)
              case atStart => exact ⟨0, by omega, rfl, HEN2.out⟩
              case round =>
                obtain ⟨t, ht14, rfl, henv⟩ := hrel
                have HEN3 := Lib.hid henv
                clear henv
                by_cases ht : t < 14
                · obtain ⟨bv1, bx, bb, p1, p2⟩ := HPR.out _ HEN3.out K S t (show K < q by omega) (by omega) (by omega)
                  have P1 := Lib.hid p1
                  have P2 := Lib.hid p2
                  have HBR := Lib.hid (Below.refl wr.heap.size wr)
                  clear p1 p2
                  go_wp2_with fail
                  refine (P1.out _ HBR.out).mono ?_
                  rintro e w7 ⟨rfl, hb7⟩
                  have HB7 := Lib.hid (fun o => hb7.trans ((box_below w7 o).mono hb7.size))
                  clear hb7
                  go_wp2_with fail
                  refine (P2.out _ (HB7.out _)).mono ?_
                  rintro e w8 ⟨rfl, hb8⟩
                  have hrow := (hb8.block w7.heap.size (by simp)).trans (heap_alloc_new w7 (.cells #[.int .i64 bv1, .int .i64 bx] 67))
                  have HB8 := Lib.hid (fun o => ((HB7.out _).trans (hb8.mono (HB7.out _).size)).trans ((box_below w8 o).mono ((HB7.out _).trans (hb8.mono (HB7.out _).size)).size))
                  have c0 : ∀ o, (w8.alloc o).cell? ⟨w7.heap.size, 0, none⟩ = some (.int .i64 bv1) := fun o => (World.cell?_alloc_lt _ _ _ (row_lt hrow)).trans (rowFacts hrow).1
                  have c1 : ∀ o, (w8.alloc o).cell? ⟨w7.heap.size, 1, none⟩ = some (.int .i64 bx) := fun o => (World.cell?_alloc_lt _ _ _ (row_lt hrow)).trans (rowFacts hrow).2.1
                  clear hb8 hrow
                  go_wp2_with fail
                  exact ⟨⟨t + 1, by omega, by go_num, HEN3.out.below (HB8.out _)⟩, by simp [intOf]; omega⟩
                · obtain rfl : t = 14 := by omega
                  go_wp2_with fail
                  exact ⟨⟨S + 1, by omega, by go_num, HEN3.out⟩, by simp [intOf]; omega⟩
            · obtain rfl : S = 2 := by omega
              go_wp2_with fail
              refine (next_any w.heap.size 3 _ HEN2.out.tp (by omega) (by omega)).mono ?_
              rintro e w9 ⟨x, hz0, hz1, rfl, hg9, ht9⟩
              obtain ⟨d2, rfl⟩ : ∃ m : Nat, x = m := ⟨x.toNat, by omega⟩
              have HEN4 := Lib.hid (HEN2.out.tape hg9 ht9)
              clear hg9 ht9
              go_wp2_with fail
              exact ⟨⟨K + (1 + d2), by omega, by go_num, HEN4.out⟩, by simp [intOf]; omega⟩
        · go_wp2_with fail
          refine (awake_any _).mono ?_
          rintro e w9 ⟨rfl, hb9⟩
          have HB9 := Lib.hid (HEN.out.bl.trans (hb9.mono HEN.out.bl.size))
          clear hb9
          go_wp2_with fail
          go_ret
          exact ⟨rfl, HB9.out⟩

/-! ### THE ROW's STEP: WRITTEN OUT: LEAVE IT -/
set_option maxRecDepth 100000 in
theorem lifted (os : Os) (started : os.Started) (H : Type) (enc : TypeId × Value → H) :
    ReturnsInHanded {} Try.checked os 11 .any (Rows.ledgerPastSpec.pre6 enc Try.prog Try.f11 Rows.ledgerPastRow.domain false) (Rows.ledgerPastSpec.post enc Try.prog Try.f11 false true false false) := by
  refine returnsInHanded_of_change (C := Try.checked) own started (by kernel_rfl) Try.func11
    (ChangeSpec.witness6 (enc := enc) (C := Try.checked) false ⟨#[], #[.slice none 0 0], []⟩ 8 (by kernel_rfl) (by kernel_rfl) (by kernel_rfl) (by kernel_rfl)) ?_
  intro W base args ds gs before hval0 hW hcnd _
  have hval : ∀ (j : Nat) t v, Try.f11.params[j]? = some t → args[j]? = some v → Value.okWide Try.prog W .any base t v := hval0
  have hW' := hW
  obtain ⟨p, q, hA0, hV, rfl, hfz, hnd⟩ := hW
  have hA : DataW.TrodAll enc Try.prog W 0 (fun _ => true) true Try.f11.params.toList args.toList ds p := hA0
  rw [Try.params11] at hA hval
  obtain ⟨v0, vs0, d0, ds0, p0, q0, hargs, rfl, rfl, h0, r0⟩ := trodAll_cons hA
  obtain ⟨rfl, rfl, rfl⟩ := trodAll_nil r0
  obtain rfl : args = #[v0] := by cases args; simp_all
  obtain ⟨rfl, rfl⟩ := trodVars_none hV
  obtain ⟨a0, len0, cap0, rfl⟩ := okWide_slice Try.underlying22 (hval 0 22 v0 rfl rfl)
  have k0 := h0
  have lt0 : ∀ x ∈ p0, x.block < W.heap.size := by obtain ⟨m, hm⟩ := k0; exact DataW.trod_lt m _ _ _ hm
  obtain ⟨z0, w0⟩ : ∃ zs, IsRow .i64 W a0 len0 cap0 zs := by
    obtain ⟨fuel, hf⟩ := h0
    rcases open_ints Try.underlying22 Try.underlying3 (by kernel_rfl) hf with ⟨hcs, _⟩ | ⟨x, l, c, zs, hcs, _, hl, hm, hz, _, hcell, hwz⟩
    · simp [Value.cells] at hcs
      obtain ⟨rfl, rfl, rfl⟩ := hcs
      exact ⟨[], .inl ⟨rfl, rfl, rfl, rfl⟩⟩
    · simp [Value.cells] at hcs
      obtain ⟨rfl, rfl, rfl⟩ := hcs
      exact ⟨zs, .inr ⟨_, rfl, hl, hm, by simpa using hz, hcell, hwz⟩⟩
  clear hA0 hval0
  refine (walk a0 len0 cap0 z0 W w0).mono fun e W' ⟨he, bel⟩ => ?_
  subst he
  exact ⟨_, rfl, _, _, _, [], _, [], hW', trodAll_mk1 (shut_bool Try.underlying4 _), (trodAll_cons_mk (Below.trod laidOut (by kernel_rfl) (of_decide_eq_true (by kernel_rfl)) k0 bel lt0) trodAll_mk0), rfl, bel.frame _, fun h => by cases h⟩

theorem over : Rows.ledgerPastRow.holds Try.pinned (OpenSpec.ofChange Rows.ledgerPastSpec) :=
  OpenClaim.holds_of_wide 11 Try.f11 rfl rfl rfl rfl rfl rfl rfl ⟨rfl, rfl, rfl, rfl, rfl⟩ rfl rfl rfl rfl rfl (by kernel_rfl) Try.func11 (by kernel_rfl)
    (of_decide_eq_true (by kernel_rfl)) (by unfold Func.isWrapper; first | (rw [if_pos (by decide +kernel)]; kernel_rfl) | (rw [if_neg (by decide +kernel)]; exact ⟨rfl, rfl⟩))
    (fun os started H enc _ => lifted os started H enc)

/-- ████ THE STATEMENT ████ -/
theorem proved : Rows.LedgerPastSaid := over
#print axioms proved
end Go.Proofs.Ytgaliinjjonlmaa.ledgerPast
