/-
  The Go function leakresponselaw42.LedgerLine returns true for every list of numbers, and leaves what was there as it was; no conditions.
-/
import Derived.Test.YtgaliinjjonlmaaLgLine
import Derived.Test.YtgaliinjjonlmaaRows
import Derived.WalkKit
import Derived.ProofKit
import Derived.OpenShut
import Derived.ShutString
import Derived.ChangeOld
import Derived.Below
namespace Go.Proofs.Ytgaliinjjonlmaa.ledgerLine
open Go.ChangeShapes Go.WideShapes Go.ChangeAt Go.RowKit
open Go.ChangeMaps (open_string shut_string)
open Go.Proofs.Ytgaliinjjonlmaa.Tp
open Go.Proofs.Ytgaliinjjonlmaa.Lg
set_option linter.unusedVariables false

/-- What the inner loop stands on. -/
structure In (w : World) (A : Option Addr) (n : Nat) (l : List R) (B : Option Addr) (m : Nat) (line : List R) (Ga Gl : Nat) (y x : Int) (last : R) (wr : World) : Prop where
  own : Lies wr A n l
  ln : Lies wr B m line
  ra : wr.heap[Ga]? = some (.cells #[.int .i64 y, .int .i64 x] 67 (0, 0))
  rl : wr.heap[Gl]? = some (.cells (recC last) 57 (0, 0))
  fo : 0 < n → ∀ a, A = some a → a.block ≠ Gl
  fl : 0 < m → ∀ a, B = some a → a.block ≠ Gl
  fa : Ga ≠ Gl
  bl : Below w.heap.size w wr
  wl : w.heap.size ≤ Gl

theorem In.below {w wr w' : World} {A B : Option Addr} {n m Ga Gl : Nat} {l line : List R} {y x : Int} {last : R} (h : In w A n l B m line Ga Gl y x last wr) (hb : Below wr.heap.size wr w') : In w A n l B m line Ga Gl y x last w' :=
  ⟨h.own.below hb, h.ln.below hb, (hb.block _ (row_lt h.ra)).trans h.ra, (hb.block _ (row_lt h.rl)).trans h.rl, h.fo, h.fl, h.fa, h.bl.trans (hb.mono h.bl.size), h.wl⟩

def set4 (w : World) (g : Nat) (r : R) : World := (((w.setCell ⟨g, 0, none⟩ (.int .i64 (r.k : Int))).setCell ⟨g, 1, none⟩ (.int .i64 (r.s : Int))).setCell ⟨g, 2, none⟩ (.int .i64 (r.u : Int))).setCell ⟨g, 3, none⟩ (.int .i64 r.v)

theorem set4_other (w : World) (g k : Nat) (r : R) (h : k ≠ g) : (set4 w g r).heap[k]? = w.heap[k]? := by
  unfold set4
  rw [Below.heap_setCell _ _ _ _ h, Below.heap_setCell _ _ _ _ h, Below.heap_setCell _ _ _ _ h, Below.heap_setCell _ _ _ _ h]

theorem set4_size (w : World) (g : Nat) (r : R) : (set4 w g r).heap.size = w.heap.size := by simp [set4, World.setCell]

theorem lies_other {w w' : World} {A : Option Addr} {n g : Nat} {l : List R} (h : Lies w A n l) (hs : w'.heap.size = w.heap.size) (hk : ∀ k, k ≠ g → w'.heap[k]? = w.heap[k]?) (hf : 0 < n → ∀ a, A = some a → a.block ≠ g) : Lies w' A n l :=
  ⟨h.len, fun hn => by
    obtain ⟨b, off, e, hlt, hc⟩ := h.mem hn
    have hb : ∀ i, w'.cell? ⟨b, i, none⟩ = w.cell? ⟨b, i, none⟩ := fun i => World.cell?_of_block (w := w) (a := ⟨b, i, none⟩) (hk b (hf hn _ e))
    refine ⟨b, off, e, by rw [hs]; exact hlt, fun j hj => ?_⟩
    obtain ⟨h0, h1, h2, h3⟩ := hc j hj
    exact ⟨(hb _).trans h0, (hb _).trans h1, (hb _).trans h2, (hb _).trans h3⟩⟩

theorem In.set {w wr : World} {A B : Option Addr} {n m Ga Gl : Nat} {l line : List R} {y x : Int} {last : R} (h : In w A n l B m line Ga Gl y x last wr) (r : R) : In w A n l B m line Ga Gl y x r (set4 wr Gl r) :=
  ⟨lies_other h.own (set4_size _ _ _) (fun k hk => set4_other _ _ _ _ hk) h.fo, lies_other h.ln (set4_size _ _ _) (fun k hk => set4_other _ _ _ _ hk) h.fl,
    (set4_other _ _ _ _ h.fa).trans h.ra, heap_setCell_same _ _ _ _ _ _ (heap_setCell_same _ _ _ _ _ _ (heap_setCell_same _ _ _ _ _ _ (heap_setCell_same _ _ _ _ _ _ h.rl))), h.fo, h.fl, h.fa,
    ⟨h.bl.os, h.bl.tape, h.bl.output, by rw [set4_size]; exact h.bl.size, fun k hk => (set4_other _ _ _ _ (by have := h.wl; omega)).trans (h.bl.block k hk)⟩, h.wl⟩

theorem below_set4 {Z : Nat} {w wr : World} (h : Below Z w wr) {g : Nat} (hg : Z ≤ g) (r : R) : Below Z w (set4 wr g r) :=
  ⟨h.os, h.tape, h.output, by rw [set4_size]; exact h.size, fun k hk => (set4_other _ _ _ _ (by omega)).trans (h.block k hk)⟩

theorem rec_frozen {w : World} {g : Nat} {r : R} (h : w.heap[g]? = some (.cells (recC r) 57 (0, 0))) (i : Nat) : w.frozen? ⟨g, i, none⟩ = false := frozen_of_row _ _ _ _ _ h

def Fnd (line : List R) (t j : Nat) (found : Bool) (last : R) : Prop := (found = false ∧ lastN line t j = none) ∨ (found = true ∧ lastN line t j = some last)

theorem Fnd.miss {line : List R} {t j : Nat} {found : Bool} {last : R} (h : Fnd line t j found last) (hs : t < (line.getD j r0).s) : Fnd line t (j + 1) found last := by
  have e : lastN line t (j + 1) = lastN line t j := if_neg (by omega)
  unfold Fnd
  rw [e]
  exact h

theorem Fnd.hit {line : List R} {t j : Nat} {r : R} (hr : line.getD j r0 = r) (hs : r.s ≤ t) : Fnd line t (j + 1) true r := by
  refine .inr ⟨rfl, ?_⟩
  rw [← hr]
  exact if_pos (by rw [hr]; exact hs)

theorem bv_nat' (l : List R) (x : Nat) : bv l (x : Int) = (l.getD x r0).v := by
  unfold bv
  rw [if_neg (by omega), Int.toNat_natCast]

/-- What was found is what is believed. -/
theorem Fnd.is {l line : List R} {K U t m n : Nat} {found : Bool} {last : R} (hn : l.length = n) (hm : line.length = m) (hl : IsLine l K U line) (h : Fnd line t m found last) :
    (found = false ∧ sd l K U t n = -1) ∨ (found = true ∧ ∃ q : Nat, sd l K U t n = q ∧ q < n ∧ l.getD q r0 = last) := by
  have e := hl.last t
  rw [hm, hn] at e
  have hb := sd_bd l K U t n
  unfold Fnd at h
  rw [e] at h
  rcases h with ⟨h1, h2⟩ | ⟨h1, h2⟩
  · exact .inl ⟨h1, (ob_none l _).1 h2⟩
  · refine .inr ⟨h1, (sd l K U t n).toNat, ?_⟩
    have hne : sd l K U t n ≠ -1 := by
      intro h3
      rw [h3] at h2
      cases h2
    unfold ob at h2
    rw [if_neg hne] at h2
    exact ⟨by omega, by omega, Option.some.inj h2⟩

set_option maxRecDepth 100000 in
set_option maxHeartbeats 4000000 in
theorem walk (a0 : Option Addr) (len0 cap0 : Nat) (z0 : List Int) (w : World) (w0 : IsRow .i64 w a0 len0 cap0 z0) :
    Calls Try.prog 12 #[.slice a0 len0 cap0] w fun e w' => e = .returned (.bool true) ∧ Below w.heap.size w w' := by
  have hm := w0.at_.1
  unfold maxLen at hm
  have htp := tape_new w0
  have HTP := Lib.hid htp
  have HBX := Lib.hid (box_below w (.cells #[.slice a0 len0 cap0, .int .i64 0] 27))
  clear w0 htp
  by_cases hlen : 200 < len0
  · have hl0 : (200 : Int) < (len0 : Int) := by omega
    go_enter Try.func12, Try.ntmps12
    go_wp2_with (go_at_call 32; refine (awake_any _).mono ?_; rintro e w1 ⟨rfl, hb1⟩; have HB1 := Lib.hid hb1; clear hb1)
    go_ret
    exact ⟨rfl, HB1.out⟩
  · have hl0 : (len0 : Int) ≤ (200 : Int) := by omega
    go_enter Try.func12, Try.ntmps12
    go_wp2_with fail
    refine (ledger_any w.heap.size _ HTP.out (by simp)).mono ?_
    rintro e w1 ⟨A, n, c, l, rfl, hlies, hled, hA, hnc, hcm, hfar, hg1, ht1⟩
    have hlen1 := hlies.len
    have hb1 : Below w.heap.size w w1 := HBX.out.grown hg1 HBX.out.size (fun k e => by cases e; exact Nat.le_refl _)
    have hfa : ∀ a, A = some a → w.heap.size < a.block := fun a e => by have := (hfar a e).1; simp at this; omega
    have hnf := hled.few
    have HLED := Lib.hid hled
    have HE := Lib.hid hlies
    have HFA := Lib.hid hfa
    have HT1 := Lib.hid ht1
    have HB1 := Lib.hid hb1
    clear hg1 hlies hled hA hfar hfa ht1 hb1
    rw [hlen1] at hnf
    go_wp2_with fail
    refine (next_any w.heap.size 30 _ HT1.out (by omega) (by omega)).mono ?_
    rintro e w2 ⟨x, hx0, hx1, rfl, hg2, ht2⟩
    obtain ⟨K, rfl⟩ : ∃ m : Nat, x = m := ⟨x.toNat, by omega⟩
    have HG2 := Lib.hid hg2
    have HT2 := Lib.hid ht2
    clear hg2 ht2 HT1 HTP
    go_wp2_with fail
    refine (next_any w.heap.size 2 _ HT2.out (by omega) (by omega)).mono ?_
    rintro e w3 ⟨x, hy0, hy1, rfl, hg3, ht3⟩
    obtain ⟨U, rfl⟩ : ∃ m : Nat, x = m := ⟨x.toNat, by omega⟩
    have hg := gb_trans HG2.out hg3
    have hl3 := HE.out.grown hg HFA.out
    have hb3 : Below w.heap.size w w3 := HB1.out.grown hg HB1.out.size (fun k e => by cases e; exact Nat.le_refl _)
    have HL := Lib.hid (fun w' (hw : Below w3.heap.size w3 w') => hl3.below hw)
    have HB3 := Lib.hid hb3
    have HLN := Lib.hid hlen1
    have HLI := Lib.hid (line_any A n c l K U w3 hl3 HLED.out.ok hnf (by omega))
    clear hg3 ht3 hl3 hb3 hg HE HB1 HG2 HT2 HFA
    go_wp2_with fail
    refine HLI.out.mono ?_
    rintro e w4 ⟨B, m, cb, line, rfl, hline, hisl, hb4⟩
    have hm := hline.len
    have HLL := Lib.hid hline
    have HIS := Lib.hid hisl
    have HB4 := Lib.hid hb4
    have HMM := Lib.hid hm
    have hm12 : m ≤ 11 := by
      have h1 := hisl.perm.length_eq
      have h2 := ln_len l K U l.length
      omega
    clear hline hisl hb4 hm HLI
    have hKK : K ≤ 1000000 := by omega
    go_wp2_with fail
    go_loopw [9] (fun tt wr => ∃ t : Nat, t ≤ 14 ∧ tt = .int .i64 t ∧ Below w4.heap.size w4 wr) (fun tt _ => 14 - (intOf tt).toNat)
    case atStart => exact ⟨0, by omega, rfl, Below.refl _ _⟩
    case round =>
      obtain ⟨t, ht14, rfl, hbl⟩ := hrel
      have HBL := Lib.hid hbl
      have HBL3 := Lib.hid (HB4.out.trans (hbl.mono HB4.out.size))
      clear hbl
      by_cases ht : t < 14
      · have hbv := believe_any A n c l K U t wr (HL.out _ HBL3.out) HLED.out.ok hKK (by omega)
        have hsb := sd_bd l K U t n
        obtain ⟨x, hx⟩ : ∃ x, sd l K U t n = x := ⟨_, rfl⟩
        rw [hx] at hbv hsb
        obtain ⟨y, hy⟩ : ∃ y, bv l x = y := ⟨_, rfl⟩
        rw [hy] at hbv
        obtain ⟨b, hbb⟩ : ∃ b, (!decide (x = -1)) = b := ⟨_, rfl⟩
        rw [hbb] at hbv
        have HBV := Lib.hid hbv
        have HX := Lib.hid hx
        have HY := Lib.hid hy
        have HBB := Lib.hid hbb
        clear hbv hx hy hbb
        have htd : decide ((t : Int) < 14) = true := decide_eq_true (by omega)
        go_wp2_with fail
        refine HBV.out.mono ?_
        rintro e w5 ⟨rfl, hb5⟩
        have HB5 := Lib.hid hb5
        clear hb5
        go_wp2_with fail
        have HIN : Hid (In w A n l B m line w5.heap.size (w5.heap.size + 1) y x r0 ((w5.alloc (.cells #[.int .i64 y, .int .i64 x] 67)).alloc (.cells (recC r0) 57))) := by
          have h1 := HB5.out.trans ((box_below w5 (.cells #[.int .i64 y, .int .i64 x] 67)).mono HB5.out.size)
          have h2 := h1.trans ((box_below (w5.alloc (.cells #[.int .i64 y, .int .i64 x] 67)) (.cells (recC r0) 57)).mono h1.size)
          have h3 := HBL3.out.trans (h2.mono HBL3.out.size)
          have h4 := HBL.out.trans (h2.mono HBL.out.size)
          have hs5 := HB5.out.size
          refine Lib.hid ⟨HL.out _ h3, HLL.out.below h4, (heap_alloc_old _ _ (by simp)).trans (heap_alloc_new _ _), ?_, fun h0 a e => ?_, fun h0 a e => ?_, by omega, HB3.out.trans (h3.mono HB3.out.size), ?_⟩
          · have := heap_alloc_new (w5.alloc (.cells #[.int .i64 y, .int .i64 x] 67)) (.cells (recC r0) 57)
            simpa using this
          · obtain ⟨b', off', e', hlt, _⟩ := (HL.out _ HBL3.out).mem h0
            rw [e] at e'
            cases e'
            show b' ≠ _
            omega
          · obtain ⟨b', off', e', hlt, _⟩ := (HLL.out.below HBL.out).mem h0
            rw [e] at e'
            cases e'
            show b' ≠ _
            omega
          · have := (HB3.out.trans (HBL3.out.mono HB3.out.size)).size
            omega
        go_loopw [12, 52] (fun ff jj wq => ∃ (j : Nat) (found : Bool) (last : R), j ≤ m ∧ jj = .int .i64 j ∧ ff = .bool found ∧ Fnd line t j found last ∧ In w A n l B m line w5.heap.size (w5.heap.size + 1) y x last wq ∧ Below wr.heap.size wr wq) (fun _ jj _ => m - (intOf jj).toNat)
        case atStart => exact ⟨0, false, r0, by omega, rfl, rfl, .inl ⟨rfl, rfl⟩, HIN.out, (HB5.out.trans ((box_below w5 _).mono HB5.out.size)).trans ((box_below _ _).mono (by have := HB5.out.size; simp; omega))⟩
        case round =>
          obtain ⟨j, found, last, hjm, rfl, rfl, hfnd, hin, hbq⟩ := hrel
          have HFN := Lib.hid hfnd
          have HIN2 := Lib.hid hin
          have HBQ := Lib.hid hbq
          clear hfnd hin hbq
          by_cases hj : j < m
          · skip
            have hhas := HIS.out.has j (by rw [HMM.out]; exact hj)
            obtain ⟨bB, offB, rfl, hbB, hcB⟩ := HIN2.out.ln.at4 (by omega)
            have hstrict := fun p hp => HIS.out.strict p j hp (by rw [HMM.out]; exact hj)
            obtain ⟨c0, c1, c2, c3⟩ := hcB j hj
            obtain ⟨⟨rk, rs, ru, rv⟩, hr⟩ : ∃ r, line.getD j r0 = r := ⟨_, rfl⟩
            rw [hr] at c0 c1 c2 c3 hhas
            obtain ⟨x0, hx0l, hx0e, hx0c⟩ := hhas
            have hck := hx0c.1
            have hcu := hx0c.2.1
            rw [hx0e] at hck hcu
            obtain rfl : ru = U := hcu
            dsimp only at c0 c1 c2 c3 hck
            have HR := Lib.hid hr
            have HP := Lib.hid (fun p (hp : p < j) => (show (line.getD p r0).s < rs by have := hstrict p hp; rw [hr] at this; exact this))
            have HCB := Lib.hid hcB
            have e0 : ∀ o i, (wr.alloc o).cell? ⟨w5.heap.size + 1, i, none⟩ = wr.cell? ⟨w5.heap.size + 1, i, none⟩ := fun o i => World.cell?_alloc_lt _ _ _ (row_lt HIN2.out.rl)
            obtain ⟨l0, l1, l2, l3⟩ := recCells wr last _ _ HIN2.out.rl
            have hfz : ∀ o i, (wr.alloc o).frozen? ⟨w5.heap.size + 1, i, none⟩ = false := fun o i => frozen_of_row _ _ _ _ _ ((heap_alloc_old _ _ (row_lt HIN2.out.rl)).trans HIN2.out.rl)
            have HFZ := Lib.hid hfz
            have HL0 := Lib.hid (fun o => (e0 o 0).trans l0)
            have HL1 := Lib.hid (fun o => (e0 o 1).trans l1)
            have HL2 := Lib.hid (fun o => (e0 o 2).trans l2)
            have HL3 := Lib.hid (fun o => (e0 o 3).trans l3)
            have HNX := Lib.hid (fun o q => (HIN2.out.below (box_below wr o)).below (w' := (wr.alloc o).drewN q) (below_drewN (Below.refl _ _) q))
            have HNB := Lib.hid (fun o q => below_drewN (HBQ.out.trans ((box_below wr o).mono HBQ.out.size)) q)
            have hs5 := HB5.out.size
            clear hr hx0e hx0l hx0c hcB hstrict e0 l0 l1 l2 l3 hfz
            by_cases hj0 : j = 0
            · subst hj0
              simp only [Nat.zero_mul, Nat.add_zero] at c0 c1 c2 c3
              by_cases hst : rs ≤ t
              · have htl : (rs : Int) ≤ (t : Int) := by omega
                go_wp2_with fail
                go_quiet (fail)
                have hiw : In w A n l (some ⟨bB, offB, none⟩) m line w5.heap.size (w5.heap.size + 1) y x last ((wr.alloc (.cells #[.int .i64 (rk : Int), .int .i64 (rs : Int), .int .i64 (ru : Int), .int .i64 rv] 57)).drewN nq) := HNX.out _ _
                have HNW := Lib.hid (HNB.out (.cells #[.int .i64 (rk : Int), .int .i64 (rs : Int), .int .i64 (ru : Int), .int .i64 rv] 57) nq)
                have hbox : ((wr.alloc (.cells #[.int .i64 (rk : Int), .int .i64 (rs : Int), .int .i64 (ru : Int), .int .i64 rv] 57)).drewN nq).heap[wr.heap.size]? = some (.cells (recC ⟨rk, rs, ru, rv⟩) 57 (0, 0)) := heap_alloc_new wr _
                generalize (wr.alloc (.cells #[.int .i64 (rk : Int), .int .i64 (rs : Int), .int .i64 (ru : Int), .int .i64 rv] 57)).drewN nq = W at *
                obtain ⟨m0, m1, m2, m3⟩ := recCells W last _ _ hiw.rl
                have f0 := rec_frozen hiw.rl
                obtain ⟨q0, q1, q2, q3⟩ := recCells W _ _ _ hbox
                have HIW := Lib.hid hiw
                clear hiw hbox c0 c1 c2 c3
                go_wp2_with fail
                have hle : w5.heap.size ≤ w5.heap.size + 1 := by omega
                refine ⟨⟨0 + 1, true, ⟨rk, rs, ru, rv⟩, by omega, by go_num, rfl, Fnd.hit HR.out hst, ?_, ?_⟩, by simp [intOf]; omega⟩
                · exact HIW.out.set ⟨rk, rs, ru, rv⟩
                · exact below_set4 HNW.out (Nat.le_trans hs5 hle) ⟨rk, rs, ru, rv⟩
              · have htl : decide ((rs : Int) ≤ (t : Int)) = false := decide_eq_false (by omega)
                go_wp2_with fail
                go_quiet (fail)
                go_wp2_with fail
                exact ⟨⟨0 + 1, found, last, by omega, by go_num, rfl, HFN.out.miss (by rw [HR.out]; show t < rs; omega), HNX.out _ _, HNB.out _ _⟩, by simp [intOf]; omega⟩
            · obtain ⟨p, hp⟩ : ∃ p, p + 1 = j := ⟨j - 1, by omega⟩
              have hps := HP.out p (by omega)
              have d1 : ∀ o, (wr.alloc o).cell? ⟨bB, offB + p * 4 + 1, none⟩ = some (.int .i64 ((line.getD p r0).s : Int)) := fun o => (World.cell?_alloc_lt _ _ _ hbB).trans (HCB.out p (by omega)).2.1
              obtain ⟨ps, hpe⟩ : ∃ ps, (line.getD p r0).s = ps := ⟨_, rfl⟩
              rw [hpe] at d1 hps
              have g5 : IntKind.i64.wrap ((j : Int) - 1) = (p : Int) := by
                rw [IntKind.wrap_i64]
                omega
              have g1 : (0 : Int) ≤ (p : Int) := by omega
              have g2 : (p : Int) < (m : Int) := by omega
              have g3 : decide ((0 : Int) < (j : Int)) = true := decide_eq_true (by omega)
              have g6 : 0 < j := by omega
              have g4 : decide ((rs : Int) ≤ (ps : Int)) = false := decide_eq_false (by omega)
              clear hp hpe hj0
              by_cases hst : rs ≤ t
              · have htl : (rs : Int) ≤ (t : Int) := by omega
                go_wp2_with fail
                go_quiet (fail)
                have hiw : In w A n l (some ⟨bB, offB, none⟩) m line w5.heap.size (w5.heap.size + 1) y x last ((wr.alloc (.cells #[.int .i64 (rk : Int), .int .i64 (rs : Int), .int .i64 (ru : Int), .int .i64 rv] 57)).drewN nq) := HNX.out _ _
                have HNW := Lib.hid (HNB.out (.cells #[.int .i64 (rk : Int), .int .i64 (rs : Int), .int .i64 (ru : Int), .int .i64 rv] 57) nq)
                have hbox : ((wr.alloc (.cells #[.int .i64 (rk : Int), .int .i64 (rs : Int), .int .i64 (ru : Int), .int .i64 rv] 57)).drewN nq).heap[wr.heap.size]? = some (.cells (recC ⟨rk, rs, ru, rv⟩) 57 (0, 0)) := heap_alloc_new wr _
                generalize (wr.alloc (.cells #[.int .i64 (rk : Int), .int .i64 (rs : Int), .int .i64 (ru : Int), .int .i64 rv] 57)).drewN nq = W at *
                obtain ⟨m0, m1, m2, m3⟩ := recCells W last _ _ hiw.rl
                have f0 := rec_frozen hiw.rl
                obtain ⟨q0, q1, q2, q3⟩ := recCells W _ _ _ hbox
                have HIW := Lib.hid hiw
                clear hiw hbox c0 c1 c2 c3 d1 g1 g2 g3 g4 g5 g6
                go_wp2_with fail
                have hle : w5.heap.size ≤ w5.heap.size + 1 := by omega
                refine ⟨⟨j + 1, true, ⟨rk, rs, ru, rv⟩, by omega, by go_num, rfl, Fnd.hit HR.out hst, ?_, ?_⟩, by simp [intOf]; omega⟩
                · exact HIW.out.set ⟨rk, rs, ru, rv⟩
                · exact below_set4 HNW.out (Nat.le_trans hs5 hle) ⟨rk, rs, ru, rv⟩
              · have htl : decide ((rs : Int) ≤ (t : Int)) = false := decide_eq_false (by omega)
                go_wp2_with fail
                go_quiet (fail)
                go_wp2_with fail
                exact ⟨⟨j + 1, found, last, by omega, by go_num, rfl, HFN.out.miss (by rw [HR.out]; show t < rs; omega), HNX.out _ _, HNB.out _ _⟩, by simp [intOf]; omega⟩
          · obtain rfl : m = j := by omega
            have hNB := fun q => below_drewN (HBL.out.trans (HBQ.out.mono HBL.out.size)) q
            have HNB := Lib.hid hNB
            obtain ⟨ra0, ra1, -, -⟩ := rowFacts HIN2.out.ra
            clear hNB
            rcases Fnd.is HLN.out HMM.out HIS.out HFN.out with ⟨rfl, h1⟩ | ⟨rfl, q, h1, hq, h2⟩
            · obtain rfl : x = -1 := HX.out.symm.trans h1
              obtain rfl : b = false := HBB.out.symm
              clear h1
              go_wp2_with fail
              go_quiet (fail)
              go_wp2_with fail
              exact ⟨⟨t + 1, by omega, by go_num, HNB.out _⟩, by simp [intOf]; omega⟩
            · obtain rfl : x = (q : Int) := HX.out.symm.trans h1
              obtain rfl : b = true := by rw [← HBB.out]; simp
              have hyv : y = last.v := by rw [← HY.out, bv_nat', h2]
              obtain ⟨bA, offA, rfl, hbA, hcA⟩ := HIN2.out.own.at4 (by omega)
              obtain ⟨o0, o1, o2, o3⟩ := hcA q hq
              rw [h2] at o0 o1 o2 o3
              obtain ⟨l0, l1, l2, l3⟩ := recCells wr last _ _ HIN2.out.rl
              have g1 : (0 : Int) ≤ (q : Int) := by omega
              have g2 : (q : Int) < (n : Int) := by omega
              have g3 : decide ((q : Int) < 0) = false := decide_eq_false (by omega)
              have g4 : decide ((n : Int) ≤ (q : Int)) = false := decide_eq_false (by omega)
              rw [← hyv] at l3 o3
              clear h1 h2 hcA hyv
              go_wp2_with fail
              go_quiet (fail)
              go_wp2_with fail
              exact ⟨⟨t + 1, by omega, by go_num, HNB.out _⟩, by simp [intOf]; omega⟩
      · obtain rfl : t = 14 := by omega
        go_wp2_with (go_at_call 32; refine (awake_any _).mono ?_; rintro e w9 ⟨rfl, hb9⟩; have HB9 := Lib.hid (HB3.out.trans ((HBL3.out.trans (hb9.mono HBL3.out.size)).mono HB3.out.size)); clear hb9)
        go_ret
        exact ⟨rfl, HB9.out⟩

/-! ### THE ROW's STEP: WRITTEN OUT: LEAVE IT -/
set_option maxRecDepth 100000 in
theorem lifted (os : Os) (started : os.Started) (H : Type) (enc : TypeId × Value → H) :
    ReturnsInHanded {} Try.checked os 12 .any (Rows.ledgerLineSpec.pre6 enc Try.prog Try.f12 Rows.ledgerLineRow.domain false) (Rows.ledgerLineSpec.post enc Try.prog Try.f12 false true false false) := by
  refine returnsInHanded_of_change (C := Try.checked) own started (by kernel_rfl) Try.func12
    (ChangeSpec.witness6 (enc := enc) (C := Try.checked) false ⟨#[], #[.slice none 0 0], []⟩ 8 (by kernel_rfl) (by kernel_rfl) (by kernel_rfl) (by kernel_rfl)) ?_
  intro W base args ds gs before hval0 hW hcnd _
  have hval : ∀ (j : Nat) t v, Try.f12.params[j]? = some t → args[j]? = some v → Value.okWide Try.prog W .any base t v := hval0
  have hW' := hW
  obtain ⟨p, q, hA0, hV, rfl, hfz, hnd⟩ := hW
  have hA : DataW.TrodAll enc Try.prog W 0 (fun _ => true) true Try.f12.params.toList args.toList ds p := hA0
  rw [Try.params12] at hA hval
  obtain ⟨v0, vs0, d0, ds0, p0, q0, hargs, rfl, rfl, h0, r0⟩ := trodAll_cons hA
  obtain ⟨rfl, rfl, rfl⟩ := trodAll_nil r0
  obtain rfl : args = #[v0] := by cases args; simp_all
  obtain ⟨rfl, rfl⟩ := trodVars_none hV
  obtain ⟨a0, len0, cap0, rfl⟩ := okWide_slice Try.underlying22 (hval 0 22 v0 rfl rfl)
  have k0 := h0
  have lt0 : ∀ x ∈ p0, x.block < W.heap.size := by obtain ⟨m, hm⟩ := k0; exact DataW.trod_lt m _ _ _ hm
  obtain ⟨z0, w0⟩ : ∃ zs, IsRow .i64 W a0 len0 cap0 zs := by
    obtain ⟨fuel, hf⟩ := h0
    rcases open_ints Try.underlying22 Try.underlying3 (by kernel_rfl) hf with ⟨hcs, _⟩ | ⟨x, l, c, zs, hcs, _, hl, hm, hz, _, hcell, hwz⟩
    · simp [Value.cells] at hcs
      obtain ⟨rfl, rfl, rfl⟩ := hcs
      exact ⟨[], .inl ⟨rfl, rfl, rfl, rfl⟩⟩
    · simp [Value.cells] at hcs
      obtain ⟨rfl, rfl, rfl⟩ := hcs
      exact ⟨zs, .inr ⟨_, rfl, hl, hm, by simpa using hz, hcell, hwz⟩⟩
  clear hA0 hval0
  refine (walk a0 len0 cap0 z0 W w0).mono fun e W' ⟨he, bel⟩ => ?_
  subst he
  exact ⟨_, rfl, _, _, _, [], _, [], hW', trodAll_mk1 (shut_bool Try.underlying4 _), (trodAll_cons_mk (Below.trod laidOut (by kernel_rfl) (of_decide_eq_true (by kernel_rfl)) k0 bel lt0) trodAll_mk0), rfl, bel.frame _, fun h => by cases h⟩

theorem over : Rows.ledgerLineRow.holds Try.pinned (OpenSpec.ofChange Rows.ledgerLineSpec) :=
  OpenClaim.holds_of_wide 12 Try.f12 rfl rfl rfl rfl rfl rfl rfl ⟨rfl, rfl, rfl, rfl, rfl⟩ rfl rfl rfl rfl rfl (by kernel_rfl) Try.func12 (by kernel_rfl)
    (of_decide_eq_true (by kernel_rfl)) (by unfold Func.isWrapper; first | (rw [if_pos (by decide +kernel)]; kernel_rfl) | (rw [if_neg (by decide +kernel)]; exact ⟨rfl, rfl⟩))
    (fun os started H enc _ => lifted os started H enc)

/-- ████ THE STATEMENT ████ -/
theorem proved : Rows.LedgerLineSaid := over
#print axioms proved
end Go.Proofs.Ytgaliinjjonlmaa.ledgerLine
