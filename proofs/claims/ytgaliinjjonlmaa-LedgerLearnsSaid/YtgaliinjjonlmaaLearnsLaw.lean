/-
  The Go function leakresponselaw42.LedgerLearns returns true for every list of numbers, and leaves what was there as it was; no conditions.
-/
import Derived.Test.YtgaliinjjonlmaaLgLrn
import Derived.Test.YtgaliinjjonlmaaRows
import Derived.WalkKit
import Derived.ProofKit
import Derived.OpenShut
import Derived.ShutString
import Derived.ChangeOld
import Derived.Below
namespace Go.Proofs.Ytgaliinjjonlmaa.ledgerLearns
open Go.ChangeShapes Go.WideShapes Go.ChangeAt Go.RowKit
open Go.ChangeMaps (open_string shut_string)
open Go.Proofs.Ytgaliinjjonlmaa.Tp
open Go.Proofs.Ytgaliinjjonlmaa.Lg
set_option linter.unusedVariables false

/-- What the search has found before k. -/
def Sc (l : List R) (U t : Nat) (V : Int) (k : Nat) (f : Int) : Prop :=
  (f = -1 ∧ ∀ j, j < k → ¬ Hit l U t V j) ∨ ∃ g : Nat, f = g ∧ g < k ∧ Hit l U t V g ∧ ∀ j, j < g → ¬ Hit l U t V j

theorem Sc.hit {l : List R} {U t k : Nat} {V : Int} (h : Sc l U t V k (-1)) (hh : Hit l U t V k) : Sc l U t V (k + 1) k := by
  rcases h with ⟨_, h⟩ | ⟨g, e, _⟩
  · exact .inr ⟨k, rfl, by omega, hh, h⟩
  · omega

theorem Sc.miss {l : List R} {U t k : Nat} {V : Int} (h : Sc l U t V k (-1)) (hh : ¬ Hit l U t V k) : Sc l U t V (k + 1) (-1) := by
  rcases h with ⟨_, h⟩ | ⟨g, e, _⟩
  · refine .inl ⟨rfl, fun j hj => ?_⟩
    by_cases e : j = k
    · rw [e]
      exact hh
    · exact h j (by omega)
  · omega

theorem F100 {l : List R} {U t : Nat} (h : Led l) : sd l 100 U t l.length = lst l U t l.length := by
  by_cases h0 : l.length = 0
  · rw [h0]
    rfl
  · obtain ⟨m, hm⟩ : ∃ m, l.length = m + 1 := ⟨l.length - 1, by omega⟩
    have e : lst l U t l.length = sd l (l.getD m r0).k U t l.length := by
      rw [hm]
      show sd l (l.getD m r0).k U t l.length = _
      rw [hm]
    rw [e]
    have hk := (h.at_ m (by omega)).1
    have hb := sd_bd l 100 U t l.length
    by_cases h1 : sd l 100 U t l.length = -1
    · have := F_up (u := U) (t := t) h.ok (show (l.getD m r0).k ≤ 100 by omega)
      have hb2 := sd_bd l (l.getD m r0).k U t l.length
      omega
    · obtain ⟨x, hx⟩ : ∃ x : Nat, sd l 100 U t l.length = x := ⟨(sd l 100 U t l.length).toNat, by omega⟩
      rw [hx, F_back (by omega) hx (up_le h.ok m x (by omega) (by omega))]

/-- The changes end with what is said in the end. -/
theorem ends {l : List R} {U t n : Nat} (h : Led l) (hn : l.length = n) : (sd l 100 U t n = -1 ∧ ch l U t n = []) ∨ ∃ (x m : Nat), sd l 100 U t n = x ∧ (ch l U t n).length = m + 1 ∧ (ch l U t n).getD m 0 = x := by
  have h1 := F100 (U := U) (t := t) h
  have h2 := ch_last l U t h.ok l.length (Nat.le_refl _)
  rw [← hn, h1]
  rcases h2 with ⟨h2, h3⟩ | ⟨h2, h3⟩
  · exact .inl ⟨h2, h3⟩
  · right
    have hb := sd_bd l 100 U t l.length
    obtain ⟨x, hx⟩ : ∃ x : Nat, lst l U t l.length = x := ⟨(lst l U t l.length).toNat, by omega⟩
    rw [hx] at h3 ⊢
    have hne : (ch l U t l.length) ≠ [] := by
      intro e
      rw [e] at h3
      cases h3
    have hl : 0 < (ch l U t l.length).length := List.length_pos_iff.2 hne
    refine ⟨x, (ch l U t l.length).length - 1, rfl, by omega, ?_⟩
    rw [List.getLast?_eq_getElem?] at h3
    rw [List.getD_eq_getElem?_getD, h3]
    simp

theorem apart_next {l : List R} {U t n : Nat} (h : Led l) (hn : l.length = n) (i : Nat) (hi : i + 1 < (ch l U t n).length) : (ch l U t n).getD i 0 < (ch l U t n).getD (i + 1) 0 := by
  have hp := (ch_up l U t h.ok n (by omega)).2
  have := List.pairwise_iff_getElem.1 hp i (i + 1) (by omega) hi (by omega)
  rw [List.getD_eq_getElem?_getD, List.getD_eq_getElem?_getD, List.getElem?_eq_getElem (by omega), List.getElem?_eq_getElem hi]
  exact this

/-- What Learned says is what the search found. -/
theorem same {l : List R} {U t : Nat} {V f : Int} {kk k : Nat} {ok : Bool} (h : Led l) (hk : k = 40 ∨ 0 ≤ f) (hs : Sc l U t V k f)
    (hr : (ok = false ∧ ∀ k, ¬ Hit l U t V k) ∨ (ok = true ∧ kk ≤ 1000000 ∧ (∃ x, x < l.length ∧ kk = (l.getD x r0).k) ∧ Hit l U t V kk ∧ ∀ j, j < kk → ¬ Hit l U t V j)) :
    (ok = false ∧ f = -1) ∨ (ok = true ∧ f = (kk : Int)) := by
  rcases hr with ⟨h1, h2⟩ | ⟨h1, h2, ⟨x, hx, hxk⟩, h3, h4⟩
  · rcases hs with ⟨h5, _⟩ | ⟨g, _, _, h5, _⟩
    · exact .inl ⟨h1, h5⟩
    · exact absurd h5 (h2 g)
  · right
    refine ⟨h1, ?_⟩
    rcases hs with ⟨h5, h6⟩ | ⟨g, h5, _, h6, h7⟩
    · have := (h.at_ x hx).1
      exact absurd h3 (h6 kk (by omega))
    · have e : g = kk := by
        rcases Nat.lt_trichotomy g kk with h8 | h8 | h8
        · exact absurd h6 (h4 g h8)
        · exact h8
        · exact absurd h3 (h7 kk h8)
      rw [h5, e]

/-- Believe at k: a hit, or none. -/
theorem bel_hit {l : List R} {n c K U t : Nat} {A : Option Addr} {w : World} {V : Int} (hl : ∀ w', Below w.heap.size w w' → Lies w' A n l) (hn : l.length = n) (hok : Ok l) (hK : K ≤ 1000000) (ht : t ≤ 1000000) :
    ∃ y x b, (∀ w', Below w.heap.size w w' → Calls Try.prog 38 #[.slice A n c, .int .i64 (K : Int), .int .i64 (U : Int), .int .i64 (t : Int)] w' (belR y x b w')) ∧
      ((Hit l U t V K ∧ b = true ∧ y = V) ∨ (¬ Hit l U t V K ∧ (b = false ∨ (b = true ∧ y ≠ V)))) := by
  refine ⟨_, _, _, fun w' hw => believe_any A n c l K U t w' (hl w' hw) hok hK ht, ?_⟩
  unfold Hit
  rw [hn]
  by_cases h1 : sd l K U t n = -1
  · exact .inr ⟨fun h => h.1 h1, .inl (by simp [h1])⟩
  · by_cases h2 : bv l (sd l K U t n) = V
    · exact .inl ⟨⟨h1, h2⟩, by simp [h1], h2⟩
    · exact .inr ⟨fun h => h2 h.2, .inr ⟨by simp [h1], h2⟩⟩

set_option maxRecDepth 100000 in
set_option maxHeartbeats 4000000 in
theorem walk (a0 : Option Addr) (len0 cap0 : Nat) (z0 : List Int) (w : World) (w0 : IsRow .i64 w a0 len0 cap0 z0) :
    Calls Try.prog 13 #[.slice a0 len0 cap0] w fun e w' => e = .returned (.bool true) ∧ Below w.heap.size w w' := by
  have hm := w0.at_.1
  unfold maxLen at hm
  have htp := tape_new w0
  have HTP := Lib.hid htp
  have HBX := Lib.hid (box_below w (.cells #[.slice a0 len0 cap0, .int .i64 0] 27))
  clear w0 htp
  by_cases hlen : 200 < len0
  · have hl0 : (200 : Int) < (len0 : Int) := by omega
    go_enter Try.func13, Try.ntmps13
    go_wp2_with (go_at_call 32; refine (awake_any _).mono ?_; rintro e w1 ⟨rfl, hb1⟩; have HB1 := Lib.hid hb1; clear hb1)
    go_ret
    exact ⟨rfl, HB1.out⟩
  · have hl0 : (len0 : Int) ≤ (200 : Int) := by omega
    go_enter Try.func13, Try.ntmps13
    go_wp2_with fail
    refine (ledger_any w.heap.size _ HTP.out (by simp)).mono ?_
    rintro e w1 ⟨A, n, c, l, rfl, hlies, hled, hA, hnc, hcm, hfar, hg1, ht1⟩
    have hlen1 := hlies.len
    have hb1 : Below w.heap.size w w1 := HBX.out.grown hg1 HBX.out.size (fun k e => by cases e; exact Nat.le_refl _)
    have hfa : ∀ a, A = some a → w.heap.size < a.block := fun a e => by have := (hfar a e).1; simp at this; omega
    have hs1 := hg1.size
    simp at hs1
    have hnf := hled.few
    have HLED := Lib.hid hled
    have HE := Lib.hid hlies
    have HFA := Lib.hid hfa
    have HT1 := Lib.hid ht1
    have HB1 := Lib.hid hb1
    clear hg1 hlies hled hA hfar hfa ht1 hb1
    rw [hlen1] at hnf
    go_wp2_with fail
    refine (next_any w.heap.size 2 _ HT1.out (by omega) (by omega)).mono ?_
    rintro e w2 ⟨x, hx0, hx1, rfl, hg2, ht2⟩
    obtain ⟨U, rfl⟩ : ∃ m : Nat, x = m := ⟨x.toNat, by omega⟩
    have HG2 := Lib.hid hg2
    have HT2 := Lib.hid ht2
    clear hg2 ht2 HT1 HTP
    go_wp2_with fail
    refine (next_any w.heap.size 14 _ HT2.out (by omega) (by omega)).mono ?_
    rintro e w3 ⟨x, hy0, hy1, rfl, hg3, ht3⟩
    obtain ⟨t, rfl⟩ : ∃ m : Nat, x = m := ⟨x.toNat, by omega⟩
    have hg := gb_trans HG2.out hg3
    have hl3 := HE.out.grown hg HFA.out
    have hb3 : Below w.heap.size w w3 := HB1.out.grown hg HB1.out.size (fun k e => by cases e; exact Nat.le_refl _)
    have HL := Lib.hid (fun w' (hw : Below w3.heap.size w3 w') => hl3.below hw)
    have HB3 := Lib.hid hb3
    have HLN := Lib.hid hlen1
    clear hg3 ht3 hl3 hb3 hg HE HB1 HG2 HT2 HFA
    have htt : t ≤ 1000000 := by omega
    go_wp2_with fail
    go_loopw [7] (fun vv wr => ∃ i : Nat, i ≤ 7 ∧ vv = .int .i64 ((i : Int) - 2) ∧ Below w3.heap.size w3 wr) (fun vv _ => (5 - intOf vv).toNat)
    case atStart => exact ⟨0, by omega, rfl, Below.refl _ _⟩
    case round =>
      obtain ⟨i, hi7, rfl, hbl⟩ := hrel
      have HBL := Lib.hid hbl
      clear hbl
      obtain ⟨V, hV⟩ : ∃ V, (i : Int) - 2 = V := ⟨_, rfl⟩
      rw [hV]
      by_cases hi : i < 7
      · have hVd : decide (V ≤ 4) = true := decide_eq_true (by omega)
        have HV := Lib.hid hV
        have hV0 : -2 ≤ V := by omega
        have hV4 : V ≤ 4 := by omega
        clear hV
        go_wp2_with fail
        go_loopw [8, 9] (fun ff kk wr => ∃ (k : Nat) (f : Int), k ≤ 40 ∧ kk = .int .i64 k ∧ ff = .int .i64 f ∧ Sc l U t V k f ∧ Below w3.heap.size w3 wr) (fun _ kk _ => 40 - (intOf kk).toNat)
        case atStart => exact ⟨0, -1, by omega, rfl, rfl, .inl ⟨rfl, fun j hj => absurd hj (by omega)⟩, HBL.out⟩
        case round =>
          obtain ⟨k, f, hk40, rfl, rfl, hsc, hbl⟩ := hrel
          have HBL2 := Lib.hid hbl
          have HSC := Lib.hid hsc
          clear hbl hsc
          by_cases hgo : k < 40 ∧ f = -1
          · obtain ⟨hk, rfl⟩ := hgo
            obtain ⟨y, x, b, hcall, hhit⟩ := bel_hit (c := c) (K := k) (U := U) (t := t) (V := V) HL.out HLN.out HLED.out.ok (by omega) htt
            have HCALL := Lib.hid (hcall _ HBL2.out)
            clear hcall
            rcases hhit with ⟨hh, rfl, rfl⟩ | ⟨hh, rfl | ⟨rfl, hne⟩⟩
            · have HH := Lib.hid hh
              clear hh
              go_loud (go_wp2_with (go_at_call 38; refine HCALL.out.mono ?_; rintro e w5 ⟨rfl, hb5⟩; have HB5 := Lib.hid (fun o => (HBL2.out.trans (hb5.mono HBL2.out.size)).trans ((box_below w5 o).mono (HBL2.out.trans (hb5.mono HBL2.out.size)).size)); clear hb5))
              exact ⟨⟨k + 1, k, by omega, by go_num, rfl, HSC.out.hit HH.out, HB5.out _⟩, by simp [intOf]; omega⟩
            · have HH := Lib.hid hh
              clear hh
              go_wp2_with (go_at_call 38; refine HCALL.out.mono ?_; rintro e w5 ⟨rfl, hb5⟩; have HB5 := Lib.hid (fun o => (HBL2.out.trans (hb5.mono HBL2.out.size)).trans ((box_below w5 o).mono (HBL2.out.trans (hb5.mono HBL2.out.size)).size)); clear hb5)
              exact ⟨⟨k + 1, -1, by omega, by go_num, rfl, HSC.out.miss HH.out, HB5.out _⟩, by simp [intOf]; omega⟩
            · have HH := Lib.hid hh
              have hne2 : (y == V) = false := beq_eq_false_iff_ne.2 hne
              clear hh hne
              go_wp2_with (go_at_call 38; refine HCALL.out.mono ?_; rintro e w5 ⟨rfl, hb5⟩; have HB5 := Lib.hid (fun o => (HBL2.out.trans (hb5.mono HBL2.out.size)).trans ((box_below w5 o).mono (HBL2.out.trans (hb5.mono HBL2.out.size)).size)); clear hb5)
              exact ⟨⟨k + 1, -1, by omega, by go_num, rfl, HSC.out.miss HH.out, HB5.out _⟩, by simp [intOf]; omega⟩
          · have hstop : k = 40 ∨ 0 ≤ f := by
              rcases HSC.out with ⟨h1, _⟩ | ⟨g, h1, _⟩ <;> omega
            have HST := Lib.hid hstop
            have HLRN := Lib.hid (learned_any A n c l U t V wr (HL.out _ HBL2.out) HLED.out.ok htt)
            have hfb : -1 ≤ f := by
              rcases HSC.out with ⟨h1, _⟩ | ⟨g, h1, _⟩ <;> omega
            by_cases hk : k < 40
            · have hf0 : 0 ≤ f := by omega
              clear hgo hstop
              go_wp2_with fail
              refine HLRN.out.mono ?_
              rintro e w6 ⟨kk, ok, rfl, hres, hb6⟩
              have HB6 := Lib.hid (HBL2.out.trans (hb6.mono HBL2.out.size))
              have hsame := same HLED.out HST.out HSC.out hres
              clear hres hb6
              rcases hsame with ⟨rfl, rfl⟩ | ⟨rfl, rfl⟩
              · go_wp2_with fail
                exact ⟨⟨i + 1, by omega, congrArg (Value.int .i64) (by have := HV.out; omega), HB6.out⟩, by have := HV.out; simp [intOf]; omega⟩
              · go_wp2_with fail
                exact ⟨⟨i + 1, by omega, congrArg (Value.int .i64) (by have := HV.out; omega), HB6.out⟩, by have := HV.out; simp [intOf]; omega⟩
            · obtain rfl : k = 40 := by omega
              clear hgo hstop
              go_wp2_with fail
              refine HLRN.out.mono ?_
              rintro e w6 ⟨kk, ok, rfl, hres, hb6⟩
              have HB6 := Lib.hid (HBL2.out.trans (hb6.mono HBL2.out.size))
              have hsame := same (k := 40) HLED.out (.inl rfl) HSC.out hres
              clear hres hb6
              rcases hsame with ⟨rfl, rfl⟩ | ⟨rfl, rfl⟩
              · go_wp2_with fail
                exact ⟨⟨i + 1, by omega, congrArg (Value.int .i64) (by have := HV.out; omega), HB6.out⟩, by have := HV.out; simp [intOf]; omega⟩
              · go_wp2_with fail
                exact ⟨⟨i + 1, by omega, congrArg (Value.int .i64) (by have := HV.out; omega), HB6.out⟩, by have := HV.out; simp [intOf]; omega⟩
      · have hVd : decide (V ≤ 4) = false := decide_eq_false (by omega)
        have HCH := Lib.hid (changes_any A n c l U t wr (HL.out _ HBL.out) HLED.out.ok htt)
        clear hV
        go_wp2_with fail
        refine HCH.out.mono ?_
        rintro e w6 ⟨B, cb, rfl, hbel, hb6⟩
        have HB6 := Lib.hid (HBL.out.trans (hb6.mono HBL.out.size))
        have hbv := believe_any A n c l 100 U t w6 (HL.out _ HB6.out) HLED.out.ok (by omega) htt
        have hcl := ch_len l U t n
        have HAP := Lib.hid (fun i hi => apart_next (U := U) (t := t) HLED.out hlen1 i hi)
        have HBEL := Lib.hid (fun w' (hw : Below w6.heap.size w6 w') => hbel.below hw)
        rcases ends (U := U) (t := t) HLED.out hlen1 with ⟨e1, e2⟩ | ⟨x, m, e1, e2, e3⟩
        · have e4 : (ch l U t n).length = 0 := by rw [e2]; rfl
          have e5 : bv l (-1) = 0 := if_pos rfl
          have e6 : (!decide ((-1 : Int) = -1)) = false := by decide
          rw [e1, e5, e6] at hbv
          rw [e4]
          have HBV := Lib.hid hbv
          clear hbv e1 e2 e4 e5 e6 hb6 hbel HAP HBEL hcl
          go_wp2_with (go_at_call 38; refine HBV.out.mono ?_; rintro e w7 ⟨rfl, hb7⟩; have HB7 := Lib.hid (fun o => (HB6.out.trans (hb7.mono HB6.out.size)).trans ((box_below w7 o).mono (HB6.out.trans (hb7.mono HB6.out.size)).size)); clear hb7)
          go_quiet (fail)
          go_wp2_with fail
          go_loopw [18] (fun ii wr => ii = .int .i64 1 ∧ Below w3.heap.size w3 wr) (fun _ _ => 0)
          case atStart => exact ⟨rfl, below_drewN (HB7.out _) _⟩
          case round =>
            obtain ⟨rfl, hbl⟩ := hrel
            have HBL8 := Lib.hid hbl
            clear hbl
            go_wp2_with (go_at_call 32; refine (awake_any _).mono ?_; rintro e w9 ⟨rfl, hb9⟩; have HB9 := Lib.hid (HB3.out.trans ((HBL8.out.trans (hb9.mono HBL8.out.size)).mono HB3.out.size)); clear hb9)
            go_ret
            exact ⟨rfl, HB9.out⟩
        · have e6 : (!decide ((x : Int) = -1)) = true := by simp
          rw [e1, e6] at hbv
          obtain ⟨b, e, hbk, hc⟩ := hbel.mem (by omega)
          subst e
          have c0 := (hc m (by omega)).1
          have c1 := (hc m (by omega)).2
          rw [e3] at c0 c1
          rw [e2]
          have HBV := Lib.hid hbv
          have HE2 := Lib.hid e2
          have HC0 := Lib.hid c0
          have HC1 := Lib.hid c1
          have hm11 : m + 1 ≤ 11 := by omega
          clear hbv e1 e2 e3 e6 hb6 hbel hc c0 c1
          obtain ⟨M, hM⟩ : ∃ M, m + 1 = M := ⟨_, rfl⟩
          have g5 : IntKind.i64.wrap ((M : Int) - 1) = (m : Int) := by
            rw [IntKind.wrap_i64]
            omega
          have g1 : (0 : Int) ≤ (m : Int) := by omega
          have g2 : (m : Int) < (M : Int) := by omega
          have g3 : decide ((0 : Int) < (M : Int)) = true := decide_eq_true (by omega)
          have g4 : 0 < M := by omega
          rw [hM]
          generalize bv l (x : Int) = y at *
          go_wp2_with (go_at_call 38; refine HBV.out.mono ?_; rintro e w7 ⟨rfl, hb7⟩; have HB7 := Lib.hid (fun o => (HB6.out.trans (hb7.mono HB6.out.size)).trans ((box_below w7 o).mono (HB6.out.trans (hb7.mono HB6.out.size)).size)); have c0 : (∀ o, (w7.alloc o).cell? ⟨b, m * 2, none⟩ = some (.int .i64 y)) := (fun o => (World.cell?_alloc_lt _ _ _ (Nat.lt_of_lt_of_le hbk hb7.size)).trans ((hb7.cell (p := ⟨b, _, none⟩) hbk).trans HC0.out)); have c1 : (∀ o, (w7.alloc o).cell? ⟨b, m * 2 + 1, none⟩ = some (.int .i64 (x : Int))) := (fun o => (World.cell?_alloc_lt _ _ _ (Nat.lt_of_lt_of_le hbk hb7.size)).trans ((hb7.cell (p := ⟨b, _, none⟩) hbk).trans HC1.out)); have HBB := Lib.hid (fun o => hb7.trans ((box_below w7 o).mono hb7.size)); clear hb7)
          go_quiet (fail)
          clear c0 c1 g5 g1 g2
          go_wp2_with fail
          go_loopw [18] (fun ii wr => ∃ i : Nat, 1 ≤ i ∧ i ≤ M ∧ ii = .int .i64 i ∧ Below w3.heap.size w3 wr ∧ Below w6.heap.size w6 wr) (fun ii _ => M - (intOf ii).toNat)
          case atStart => exact ⟨1, by omega, by omega, rfl, below_drewN (HB7.out _) _, below_drewN (HBB.out _) _⟩
          case round =>
            obtain ⟨i, hi1, hiM, rfl, hbl, hbl2⟩ := hrel
            have HBL8 := Lib.hid hbl
            have HBL9 := Lib.hid hbl2
            by_cases hi : i < M
            · obtain ⟨b2, e, hbk2, hc⟩ := (HBEL.out _ hbl2).mem (by have := HE2.out; omega)
              cases e
              obtain ⟨j, rfl⟩ : ∃ j, i = j + 1 := ⟨i - 1, by omega⟩
              have c1 := (hc (j + 1) (by have := HE2.out; omega)).2
              have d1 := (hc j (by have := HE2.out; omega)).2
              have hlt := HAP.out j (by have := HE2.out; omega)
              have hne : (((ch l U t n).getD (j + 1) 0 : Nat) : Int) ≠ (((ch l U t n).getD j 0 : Nat) : Int) := by omega
              generalize (((ch l U t n).getD (j + 1) 0 : Nat) : Int) = y1 at *
              generalize (((ch l U t n).getD j 0 : Nat) : Int) = y2 at *
              have hne2 : (y1 == y2) = false := beq_eq_false_iff_ne.2 hne
              clear hc hlt hne hbl hbl2
              generalize hp : j + 1 = p at *
              have g5 : IntKind.i64.wrap ((p : Int) - 1) = (j : Int) := by
                rw [IntKind.wrap_i64]
                omega
              have g1 : (0 : Int) ≤ (p : Int) := by omega
              have g2 : (p : Int) < (M : Int) := by omega
              have g6 : (0 : Int) ≤ (j : Int) := by omega
              have g7 : (j : Int) < (M : Int) := by omega
              have HP := Lib.hid hp
              clear hp
              go_wp2_with fail
              go_quiet (fail)
              go_wp2_with fail
              exact ⟨⟨p + 1, by omega, by omega, by go_num, below_drewN HBL8.out _, below_drewN HBL9.out _⟩, by simp [intOf]; omega⟩
            · obtain rfl : M = i := by omega
              clear hbl hbl2
              go_wp2_with (go_at_call 32; refine (awake_any _).mono ?_; rintro e w9 ⟨rfl, hb9⟩; have HB9 := Lib.hid (HB3.out.trans ((HBL8.out.trans (hb9.mono HBL8.out.size)).mono HB3.out.size)); clear hb9)
              go_ret
              exact ⟨rfl, HB9.out⟩

/-! ### THE ROW's STEP: WRITTEN OUT: LEAVE IT -/
set_option maxRecDepth 100000 in
theorem lifted (os : Os) (started : os.Started) (H : Type) (enc : TypeId × Value → H) :
    ReturnsInHanded {} Try.checked os 13 .any (Rows.ledgerLearnsSpec.pre6 enc Try.prog Try.f13 Rows.ledgerLearnsRow.domain false) (Rows.ledgerLearnsSpec.post enc Try.prog Try.f13 false true false false) := by
  refine returnsInHanded_of_change (C := Try.checked) own started (by kernel_rfl) Try.func13
    (ChangeSpec.witness6 (enc := enc) (C := Try.checked) false ⟨#[], #[.slice none 0 0], []⟩ 8 (by kernel_rfl) (by kernel_rfl) (by kernel_rfl) (by kernel_rfl)) ?_
  intro W base args ds gs before hval0 hW hcnd _
  have hval : ∀ (j : Nat) t v, Try.f13.params[j]? = some t → args[j]? = some v → Value.okWide Try.prog W .any base t v := hval0
  have hW' := hW
  obtain ⟨p, q, hA0, hV, rfl, hfz, hnd⟩ := hW
  have hA : DataW.TrodAll enc Try.prog W 0 (fun _ => true) true Try.f13.params.toList args.toList ds p := hA0
  rw [Try.params13] at hA hval
  obtain ⟨v0, vs0, d0, ds0, p0, q0, hargs, rfl, rfl, h0, r0⟩ := trodAll_cons hA
  obtain ⟨rfl, rfl, rfl⟩ := trodAll_nil r0
  obtain rfl : args = #[v0] := by cases args; simp_all
  obtain ⟨rfl, rfl⟩ := trodVars_none hV
  obtain ⟨a0, len0, cap0, rfl⟩ := okWide_slice Try.underlying22 (hval 0 22 v0 rfl rfl)
  have k0 := h0
  have lt0 : ∀ x ∈ p0, x.block < W.heap.size := by obtain ⟨m, hm⟩ := k0; exact DataW.trod_lt m _ _ _ hm
  obtain ⟨z0, w0⟩ : ∃ zs, IsRow .i64 W a0 len0 cap0 zs := by
    obtain ⟨fuel, hf⟩ := h0
    rcases open_ints Try.underlying22 Try.underlying3 (by kernel_rfl) hf with ⟨hcs, _⟩ | ⟨x, l, c, zs, hcs, _, hl, hm, hz, _, hcell, hwz⟩
    · simp [Value.cells] at hcs
      obtain ⟨rfl, rfl, rfl⟩ := hcs
      exact ⟨[], .inl ⟨rfl, rfl, rfl, rfl⟩⟩
    · simp [Value.cells] at hcs
      obtain ⟨rfl, rfl, rfl⟩ := hcs
      exact ⟨zs, .inr ⟨_, rfl, hl, hm, by simpa using hz, hcell, hwz⟩⟩
  clear hA0 hval0
  refine (walk a0 len0 cap0 z0 W w0).mono fun e W' ⟨he, bel⟩ => ?_
  subst he
  exact ⟨_, rfl, _, _, _, [], _, [], hW', trodAll_mk1 (shut_bool Try.underlying4 _), (trodAll_cons_mk (Below.trod laidOut (by kernel_rfl) (of_decide_eq_true (by kernel_rfl)) k0 bel lt0) trodAll_mk0), rfl, bel.frame _, fun h => by cases h⟩

theorem over : Rows.ledgerLearnsRow.holds Try.pinned (OpenSpec.ofChange Rows.ledgerLearnsSpec) :=
  OpenClaim.holds_of_wide 13 Try.f13 rfl rfl rfl rfl rfl rfl rfl ⟨rfl, rfl, rfl, rfl, rfl⟩ rfl rfl rfl rfl rfl (by kernel_rfl) Try.func13 (by kernel_rfl)
    (of_decide_eq_true (by kernel_rfl)) (by unfold Func.isWrapper; first | (rw [if_pos (by decide +kernel)]; kernel_rfl) | (rw [if_neg (by decide +kernel)]; exact ⟨rfl, rfl⟩))
    (fun os started H enc _ => lifted os started H enc)

/-- ████ THE STATEMENT ████ -/
theorem proved : Rows.LedgerLearnsSaid := over
#print axioms proved
end Go.Proofs.Ytgaliinjjonlmaa.ledgerLearns
