/-
  The Go function leakresponse/leakresponselaw25.RightsChains returns true for every list of numbers, and leaves what was there as it was; no conditions. There is a chain for each power above none, that proves all lesser rights, and no greater one.
-/
import Derived.Test.YtahggnlmabdbbaaLwF
import Derived.Test.YtahggnlmabdbbaaRows
namespace Go.Proofs.Ytahggnlmabdbbaa.rightsChains
open Go.ChangeShapes Go.WideShapes Go.ChangeAt Go.RowKit Go.Shelf Go.Maps
open Go.ChangeMaps (open_string shut_string)
open Go.Proofs.Ytahggnlmabdbbaa.Tp
open Go.Proofs.Ytahggnlmabdbbaa.Di
open Go.Proofs.Ytahggnlmabdbbaa.Sx
set_option linter.unusedVariables false

set_option maxRecDepth 100000 in
set_option maxHeartbeats 16000000 in
theorem walk (a0 : Option Addr) (len0 cap0 : Nat) (z0 : List Int) (w : World) (w0 : IsRow .i64 w a0 len0 cap0 z0) :
    Calls Try.prog 5 #[.slice a0 len0 cap0] w fun e w' => e = .returned (.bool true) ∧ Below w.heap.size w w' := by
  have hm0 := w0.at_.1
  unfold maxLen at hm0
  have E : Rel (fun x => w.heap.size ≤ x) w w := Rel.refl _ _
  refine Sx.enter Try.func5 rfl Try.ntmps5 rfl (fun fr => ?_)
  refine Sx.seq ?_
  refine Sx.reg ?_
  refine Sx.sv (r_as rfl) rfl (wnt0 rfl) ?_
  refine wnil ?_
  refine Sx.nT ?_
  refine Sx.seq ?_
  refine Sx.seq ?_
  refine Sx.reg ?_
  refine Sx.sv (r_mv rfl) rfl (wnt0 rfl) ?_
  refine Sx.sv (r_ln Try.underlying22 rfl) rfl (wnt0 rfl) ?_
  refine Sx.sv (r_gt rfl rfl) rfl (wnt0 rfl) ?_
  refine wnil ?_
  refine Sx.nT ?_
  by_cases hlen : 300 < len0
  · refine Sx.ct rfl (decide_eq_true (by omega)) ?_
    refine Sx.seq ?_
    refine Sx.reg ?_
    refine Sx.sc (r_call en7 rfl) rfl (wnt0 rfl) (awake_any _) ?_
    rintro e w1 ⟨rfl, hb1⟩
    refine ⟨_, rfl, ?_⟩
    have r1 := Rel.of0 hb1
    replace E := E.then r1 (fun _ _ h => h.elim)
    refine Sx.sv (r_as rfl) rfl (wnt0 rfl) ?_
    refine wnil ?_
    refine Sx.nT ?_
    refine wp_ret ?_
    refine Sx.rT ?_
    exact Sx.ret1 Try.results5 rfl ⟨rfl, E.toB0⟩
  · skip
    refine Sx.cf rfl (decide_eq_false (by omega)) ?_
    refine wp_skip ?_
    refine Sx.nT ?_
    refine Sx.seq ?_
    refine Sx.reg ?_
    refine Sx.sv (r_mv rfl) rfl (wnt0 rfl) ?_
    refine Sx.sv (r_bld rfl (bd26_0 _ _ _)) rfl (wnt0 rfl) ?_
    refine Sx.sy (y_box rfl rfl) rfl (wnt0 rfl) ?_
    rintro _ w2 ⟨b2, rfl, n2, x2⟩
    have g2 : w.heap.size ≤ b2 := Nat.le_trans E.size n2.ge
    replace E := E.then n2.r (fun _ _ h => h.elim)
    refine Sx.sv (r_as rfl) rfl (wnt0 rfl) ?_
    refine wnil ?_
    refine Sx.nT ?_
    refine Sx.seq ?_
    refine Sx.reg ?_
    refine Sx.sv (r_mv rfl) rfl (wnt0 rfl) ?_
    have ht := tape_of w0 n2 x2
    have lT := x2.lt
    have tq3_ht := tape_lt ht
    refine Sx.sc (r_call en8 rfl) rfl (wnt0 rfl) (rights_any b2 _ ht lT) ?_
    rintro e w3 ⟨x, v, rfl, hmk, hrl, hg3, ht3⟩
    refine ⟨_, rfl, ?_⟩
    have r3 := Rel.ofT hg3
    replace E := E.then r3 (fun x hx (e : x = b2) => show w.heap.size ≤ x by omega)
    replace ht := ht3
    have HX := Has.rl hrl
    have hok := hmk.ok
    have hc1 := hmk.c1
    have hc6 := hmk.c6
    have hk1 := hmk.k1
    have hk5 := hmk.k5
    have hg7 := hmk.g7
    have hs4 := hmk.s4
    have hm3 := hmk.m3
    have hsz : szs x := ⟨by omega, by omega, by omega⟩
    refine Sx.sy (y_all zi31 rfl) rfl (wnt0 rfl) ?_
    rintro _ w4 ⟨b4, rfl, n4, x4⟩
    have l4_ht : b2 < b4 := Nat.lt_of_lt_of_le (tape_lt ht) n4.ge
    have l4_HX : w3.heap.size ≤ b4 := Nat.le_trans HX.le n4.ge
    have g4 : w.heap.size ≤ b4 := Nat.le_trans E.size n4.ge
    replace ht := tape_rel ht n4.r (fun _ _ h => h)
    replace HX := HX.nw n4.r
    replace E := E.then n4.r (fun _ _ h => h.elim)
    refine Sx.syu (u_stR ty31 rfl rfl rfl x4 rfl rfl) rfl (wnt0 rfl) ?_
    rintro w5 ⟨r5, z5, x5n⟩
    replace ht := tape_rel ht r5 (fun b hb (e : b = b4) => by omega)
    replace HX := HX.ch r5 (by omega)
    replace E := E.then r5 (fun x hx (e : x = b4) => show w.heap.size ≤ x by omega)
    replace x4 := x5n; clear x5n
    refine wnil ?_
    refine Sx.nT ?_
    refine Sx.seq ?_
    refine Sx.reg ?_
    refine Sx.sv (r_mv rfl) rfl (wnt0 rfl) ?_
    refine Sx.sv (r_fa fo31_0 rfl) rfl (wnt0 rfl) ?_
    refine Sx.sv (r_ld ty3 rfl (x4.seg) rfl) rfl (wnt0 rfl) ?_
    have tq6_ht := tape_lt ht
    refine Sx.sc (r_call en9 rfl) rfl (wnt0 rfl) (next_any b2 x.c _ ht (by omega) (by omega)) ?_
    rintro e w6 ⟨z6, p6, q6, rfl, hg6, ht6⟩
    refine ⟨_, rfl, ?_⟩
    have r6 := Rel.ofT hg6
    replace HX := HX.ch r6 (by omega)
    replace x4 := x4.ch r6 (by omega)
    replace E := E.then r6 (fun x hx (e : x = b2) => show w.heap.size ≤ x by omega)
    replace ht := ht6
    have hc : 0 ≤ z6 ∧ z6 < x.c := ⟨by omega, by omega⟩
    generalize z6 = c at *
    refine Sx.sv (r_as rfl) rfl (wnt0 rfl) ?_
    refine wnil ?_
    refine Sx.nT ?_
    refine Sx.seq ?_
    refine Sx.reg ?_
    refine Sx.sv (r_ldr ty31 rfl (x4.seg) rfl) rfl (wnt0 rfl) ?_
    refine Sx.sv (r_mv rfl) rfl (wnt0 rfl) ?_
    have tq7_ht := tape_lt ht
    refine Sx.sc (r_call en11 rfl) rfl (wnt0 rfl) (power_yes x v c _ (HX.ok.base (Nat.zero_le _)) hsz ⟨hok, hc⟩) ?_
    rintro e w7 ⟨Ap, cp, rfl, hpo, hb7⟩
    refine ⟨_, rfl, ?_⟩
    have r7 := Rel.of0 hb7
    replace ht := tape_rel ht r7 (fun _ _ h => h)
    replace HX := HX.nw r7
    replace x4 := x4.nw r7
    replace E := E.then r7 (fun _ _ h => h.elim)
    have HP := Has.row (row_of_own hpo)
    have hpl : (pwr x c).length = x.k.toNat := pw_len _ _
    refine Sx.sv (r_as rfl) rfl (wnt0 rfl) ?_
    refine wnil ?_
    refine Sx.nT ?_
    refine Sx.seq ?_
    refine Sx.seq ?_
    refine Sx.reg ?_
    refine Sx.sv (r_mv rfl) rfl (wnt0 rfl) ?_
    refine Sx.sv (r_ln Try.underlying22 rfl) rfl (wnt0 rfl) ?_
    refine Sx.sv (r_fa fo31_1 rfl) rfl (wnt0 rfl) ?_
    refine Sx.sv (r_ld ty3 rfl (x4.seg) rfl) rfl (wnt0 rfl) ?_
    refine Sx.sv (r_ne rfl rfl) rfl (wnt0 rfl) ?_
    refine wnil ?_
    refine Sx.nT ?_
    refine Sx.cf rfl (decide_eq_false (by omega)) ?_
    refine wp_skip ?_
    refine Sx.nT ?_
    refine Sx.seq ?_
    refine Sx.seq ?_
    refine Sx.reg ?_
    refine Sx.sv (r_mv rfl) rfl (wnt0 rfl) ?_
    refine Sx.sv (r_ln Try.underlying22 rfl) rfl (wnt0 rfl) ?_
    refine Sx.sv (r_mv rfl) rfl (wnt0 rfl) ?_
    refine wnil ?_
    refine Sx.nT ?_
    refine Sx.blk ?_
    have t8_HX := HX.le
    have t8_x4 := x4.lt
    have t8_HP := HP.le
    refine Sx.lp (Nat) (fun i => [(35, .int .i64 (i : Int)), (33, .slice Ap (pwr x c).length cp), (34, .int .i64 ((pwr x c).length : Int)), (3, .pointer (some ⟨b2, 0, none⟩)), (4, .pointer (some ⟨b4, 0, none⟩)), (5, .int .i64 c)]) (fun i wr => Rel (fun x => w7.heap.size ≤ x) w7 wr ∧ i ≤ (pwr x c).length) (fun i => (pwr x c).length - i) 0 ⟨rfl, rfl, rfl, rfl, rfl, rfl, trivial⟩ ⟨Rel.refl _ _, Nat.zero_le _⟩ ?_
    rintro i fr w8 ⟨E8, hi⟩
    show Code.wp _ _ _ (Fa fr [(35, .int .i64 (i : Int)), (33, .slice Ap (pwr x c).length cp), (34, .int .i64 ((pwr x c).length : Int)), (3, .pointer (some ⟨b2, 0, none⟩)), (4, .pointer (some ⟨b4, 0, none⟩)), (5, .int .i64 c)]) _
    replace ht := tape_rel ht E8 (fun x hx => show ¬ (w7.heap.size ≤ x) by omega)
    replace HX := HX.rel E8 (fun x h1 h2 => show ¬ (w7.heap.size ≤ x) by omega)
    replace x4 := x4.rel E8 (show ¬ (w7.heap.size ≤ b4) by omega)
    replace HP := HP.rel E8 (fun x h1 h2 => show ¬ (w7.heap.size ≤ x) by omega)
    have s8_E := E.size
    replace E := E.then E8 (fun x hx (e : w7.heap.size ≤ x) => show w.heap.size ≤ x by omega)
    refine Sx.seq ?_
    refine Sx.reg ?_
    refine Sx.sv (r_lt rfl rfl) rfl (wnt0 rfl) ?_
    refine wnil ?_
    refine Sx.nT ?_
    refine Sx.seq ?_
    by_cases hlt : i < (pwr x c).length
    · refine Sx.ct rfl (decide_eq_true (by omega)) ?_
      obtain ⟨ba, oa, hA1, -, hba, hca⟩ := HP.ok.z hlt
      have m1 : Me _ ba (oa + i) [_] := .one hba hca
      have hpi : e0 (pwr x c) i = gt x (rB x c) (i : Int) x.g.length := pw_at _ _ (by omega)
      rw [hpi] at m1
      refine wp_skip ?_
      refine Sx.nT ?_
      refine Sx.seq ?_
      refine Sx.blk ?_
      refine Sx.seq ?_
      refine Sx.reg ?_
      refine Sx.sv (r_mv rfl) rfl (wnt0 rfl) ?_
      refine Sx.sv (r_ix1i ix22 rfl (by first | rfl | assumption) rfl (by first | rfl | assumption) (by omega)) rfl (wnt0 rfl) ?_
      refine Sx.sv (r_ld0 ty3 rfl (m1.seg) rfl) rfl (wnt0 rfl) ?_
      refine Sx.sv (r_as rfl) rfl (wnt0 rfl) ?_
      refine Sx.sv (r_as rfl) rfl (wnt0 rfl) ?_
      refine wnil ?_
      refine Sx.nT ?_
      refine Sx.seq ?_
      refine Sx.reg ?_
      refine Sx.sv (r_ldr ty31 rfl (x4.seg) rfl) rfl (wnt0 rfl) ?_
      refine Sx.sv (r_mv rfl) rfl (wnt0 rfl) ?_
      refine Sx.sv (r_mv rfl) rfl (wnt0 rfl) ?_
      refine Sx.sc (r_call en18 rfl) rfl (wnt0 rfl) (why_any x v c (i : Int) _ (HX.ok.base (Nat.zero_le _)) hok hc ⟨by omega, by omega⟩) ?_
      rintro e w9 (⟨hg0, rfl, hb9⟩ | ⟨l, j, A, cc, rfl, hj, hp, hb, hgc, hl24, hown, hb9⟩)
      · refine ⟨_, rfl, ?_⟩
        have r9 := Rel.of0 hb9
        replace ht := tape_rel ht r9 (fun _ _ h => h)
        replace HX := HX.nw r9
        replace x4 := x4.nw r9
        replace HP := HP.nw r9
        replace E := E.then r9 (fun _ _ h => h.elim)
        replace E8 := E8.then r9 (fun _ _ h => h.elim)
        refine Sx.sv (r_mv rfl) rfl (wnt0 rfl) ?_
        refine Sx.sv (r_ex rfl rfl) rfl (wnt0 rfl) ?_
        refine Sx.sv (r_ex rfl rfl) rfl (wnt0 rfl) ?_
        refine Sx.sv (r_as rfl) rfl (wnt0 rfl) ?_
        refine Sx.sv (r_as rfl) rfl (wnt0 rfl) ?_
        refine wnil ?_
        refine Sx.nT ?_
        refine Sx.seq ?_
        refine Sx.seq ?_
        refine Sx.reg ?_
        refine Sx.sv (r_mv rfl) rfl (wnt0 rfl) ?_
        refine Sx.sv (r_mv rfl) rfl (wnt0 rfl) ?_
        refine Sx.sv (r_gt rfl rfl) rfl (wnt0 rfl) ?_
        refine Sx.sv (r_neb Try.underlying4 rfl rfl) rfl (wnt0 rfl) ?_
        refine wnil ?_
        refine Sx.nT ?_
        refine Sx.cf rfl (by rw [decide_eq_false (by omega)]; rfl) ?_
        refine wp_skip ?_
        refine Sx.nT ?_
        refine Sx.seq ?_
        refine Sx.reg ?_
        refine Sx.sv (r_as rfl) rfl (wnt0 rfl) ?_
        refine wnil ?_
        refine Sx.nT ?_
        refine Sx.blk ?_
        have t10_HX := HX.le
        have t10_x4 := x4.lt
        have t10_HP := HP.le
        refine Sx.lp (Nat) (fun q => [(35, .int .i64 (i : Int)), (33, .slice Ap (pwr x c).length cp), (34, .int .i64 ((pwr x c).length : Int)), (3, .pointer (some ⟨b2, 0, none⟩)), (4, .pointer (some ⟨b4, 0, none⟩)), (5, .int .i64 c), (11, .int .i64 ((q : Int) + 1)), (7, .int .i64 (i : Int)), (8, .int .i64 (gt x (rB x c) (i : Int) x.g.length)), (9, Value.slice none 0 0), (10, .bool false)]) (fun q wr => Rel (fun x => w9.heap.size ≤ x) w9 wr ∧ q ≤ 3) (fun q => 3 - q) 0 ⟨rfl, rfl, rfl, rfl, rfl, rfl, rfl, rfl, rfl, rfl, rfl, trivial⟩ ⟨Rel.refl _ _, by omega⟩ ?_
        rintro q fr w10 ⟨E10, hq⟩
        show Code.wp _ _ _ (Fa fr [(35, .int .i64 (i : Int)), (33, .slice Ap (pwr x c).length cp), (34, .int .i64 ((pwr x c).length : Int)), (3, .pointer (some ⟨b2, 0, none⟩)), (4, .pointer (some ⟨b4, 0, none⟩)), (5, .int .i64 c), (11, .int .i64 ((q : Int) + 1)), (7, .int .i64 (i : Int)), (8, .int .i64 (gt x (rB x c) (i : Int) x.g.length)), (9, Value.slice none 0 0), (10, .bool false)]) _
        replace ht := tape_rel ht E10 (fun x hx => show ¬ (w9.heap.size ≤ x) by omega)
        replace HX := HX.rel E10 (fun x h1 h2 => show ¬ (w9.heap.size ≤ x) by omega)
        replace x4 := x4.rel E10 (show ¬ (w9.heap.size ≤ b4) by omega)
        replace HP := HP.rel E10 (fun x h1 h2 => show ¬ (w9.heap.size ≤ x) by omega)
        have s10_E := E.size
        replace E := E.then E10 (fun x hx (e : w9.heap.size ≤ x) => show w.heap.size ≤ x by omega)
        have s10_E8 := E8.size
        replace E8 := E8.then E10 (fun x hx (e : w9.heap.size ≤ x) => show w7.heap.size ≤ x by omega)
        refine Sx.seq ?_
        refine Sx.seq ?_
        refine Sx.reg ?_
        refine Sx.sv (r_mv rfl) rfl (wnt0 rfl) ?_
        refine Sx.sv (r_le rfl rfl) rfl (wnt0 rfl) ?_
        refine wnil ?_
        refine Sx.nT ?_
        by_cases hq3 : q < 3
        · refine Sx.ct rfl (decide_eq_true (by omega)) ?_
          refine wp_skip ?_
          refine Sx.nT ?_
          refine Sx.seq ?_
          refine Sx.blk ?_
          refine Sx.seq ?_
          refine Sx.reg ?_
          refine Sx.sv (r_ldr ty31 rfl (x4.seg) rfl) rfl (wnt0 rfl) ?_
          refine Sx.sv (r_mv rfl) rfl (wnt0 rfl) ?_
          refine Sx.sv (r_mv rfl) rfl (wnt0 rfl) ?_
          refine Sx.sv (r_mv rfl) rfl (wnt0 rfl) ?_
          refine Sx.sv (r_mv rfl) rfl (wnt0 rfl) ?_
          have tq11_ht := tape_lt ht
          refine Sx.sc (r_call en19 rfl) rfl (wnt0 rfl) (proves_nil x v c (i : Int) ((q : Int) + 1) _ (HX.ok.base (Nat.zero_le _)) hok hc ⟨by omega, by omega⟩ ⟨by omega, by omega⟩) ?_
          rintro e w11 ⟨rfl, hb11⟩
          refine ⟨_, rfl, ?_⟩
          have r11 := Rel.of0 hb11
          replace ht := tape_rel ht r11 (fun _ _ h => h)
          replace HX := HX.nw r11
          replace x4 := x4.nw r11
          replace HP := HP.nw r11
          replace E := E.then r11 (fun _ _ h => h.elim)
          replace E8 := E8.then r11 (fun _ _ h => h.elim)
          replace E10 := E10.then r11 (fun _ _ h => h.elim)
          refine Sx.sv (r_mv rfl) rfl (wnt0 rfl) ?_
          refine Sx.sv (r_mv rfl) rfl (wnt0 rfl) ?_
          refine Sx.sg (wntF (dj := 62) (b0 := false) rfl rfl rfl rfl (rfl) rfl) rfl ?_
          refine Sx.sg (wntF (dj := 62) (b0 := false) rfl rfl rfl rfl (rfl) rfl) rfl ?_
          refine Sx.sg (wntF (dj := 62) (b0 := false) rfl rfl rfl rfl (rfl) rfl) rfl ?_
          refine Sx.sv (r_pkF rfl (rfl) rfl) rfl (wnt0 rfl) ?_
          refine Sx.sv (r_neb Try.underlying4 rfl rfl) rfl (wnt0 rfl) ?_
          refine wnil ?_
          refine Sx.nT ?_
          refine Sx.cf rfl (rfl) ?_
          refine wp_skip ?_
          refine Sx.nB ?_
          refine Sx.nT ?_
          refine Sx.reg ?_
          refine Sx.sv (r_mv rfl) rfl (wnt0 rfl) ?_
          refine Sx.sv (r_add rfl rfl (by omega) (by omega)) rfl (wnt0 rfl) ?_
          refine Sx.sv (r_as rfl) rfl (wnt0 rfl) ?_
          refine wnil ?_
          refine Sx.nT ?_
          exact Sx.lpe (q + 1) ⟨rfl, rfl, rfl, rfl, rfl, rfl, rfl, rfl, rfl, rfl, rfl, trivial⟩ ⟨E10, by omega⟩ (show _ - (q + 1) < _ - q by omega)
        · refine Sx.cf rfl (decide_eq_false (by omega)) ?_
          refine wp_exit ?_
          refine Sx.eT ?_
          refine Sx.eT ?_
          refine Sx.eB ?_
          refine Sx.nB ?_
          refine Sx.nT ?_
          refine Sx.reg ?_
          refine Sx.sv (r_add rfl rfl (by omega) (by omega)) rfl (wnt0 rfl) ?_
          refine Sx.sv (r_mv rfl) rfl (wnt0 rfl) ?_
          refine wnil ?_
          refine Sx.nT ?_
          exact Sx.lpe (i + 1) ⟨rfl, rfl, rfl, rfl, rfl, rfl, trivial⟩ ⟨E8, hlt⟩ (show _ - (i + 1) < _ - i by omega)
      · refine ⟨_, rfl, ?_⟩
        have r9 := Rel.of0 hb9
        replace ht := tape_rel ht r9 (fun _ _ h => h)
        replace HX := HX.nw r9
        replace x4 := x4.nw r9
        replace HP := HP.nw r9
        replace E := E.then r9 (fun _ _ h => h.elim)
        replace E8 := E8.then r9 (fun _ _ h => h.elim)
        have HC := Has.row (row_of_own hown)
        have hcc : l.length + 1 ≤ cc := own_capn hown (by omega)
        obtain ⟨-, -, -, -, hq5, hq6⟩ := hok.g j hj
        refine Sx.sv (r_mv rfl) rfl (wnt0 rfl) ?_
        refine Sx.sv (r_ex rfl rfl) rfl (wnt0 rfl) ?_
        refine Sx.sv (r_ex rfl rfl) rfl (wnt0 rfl) ?_
        refine Sx.sv (r_as rfl) rfl (wnt0 rfl) ?_
        refine Sx.sv (r_as rfl) rfl (wnt0 rfl) ?_
        refine wnil ?_
        refine Sx.nT ?_
        refine Sx.seq ?_
        refine Sx.seq ?_
        refine Sx.reg ?_
        refine Sx.sv (r_mv rfl) rfl (wnt0 rfl) ?_
        refine Sx.sv (r_mv rfl) rfl (wnt0 rfl) ?_
        refine Sx.sv (r_gt rfl rfl) rfl (wnt0 rfl) ?_
        refine Sx.sv (r_neb Try.underlying4 rfl rfl) rfl (wnt0 rfl) ?_
        refine wnil ?_
        refine Sx.nT ?_
        refine Sx.cf rfl (by rw [decide_eq_true (by omega)]; rfl) ?_
        refine wp_skip ?_
        refine Sx.nT ?_
        refine Sx.seq ?_
        refine Sx.reg ?_
        refine Sx.sv (r_as rfl) rfl (wnt0 rfl) ?_
        refine wnil ?_
        refine Sx.nT ?_
        refine Sx.blk ?_
        have t12_HX := HX.le
        have t12_x4 := x4.lt
        have t12_HP := HP.le
        have t12_HC := HC.le
        refine Sx.lp (Nat) (fun q => [(35, .int .i64 (i : Int)), (33, .slice Ap (pwr x c).length cp), (34, .int .i64 ((pwr x c).length : Int)), (3, .pointer (some ⟨b2, 0, none⟩)), (4, .pointer (some ⟨b4, 0, none⟩)), (5, .int .i64 c), (11, .int .i64 ((q : Int) + 1)), (7, .int .i64 (i : Int)), (8, .int .i64 (gt x (rB x c) (i : Int) x.g.length)), (9, .slice A (l.length + 1) cc), (10, .bool true)]) (fun q wr => Rel (fun x => w9.heap.size ≤ x) w9 wr ∧ q ≤ 3) (fun q => 3 - q) 0 ⟨rfl, rfl, rfl, rfl, rfl, rfl, rfl, rfl, rfl, rfl, rfl, trivial⟩ ⟨Rel.refl _ _, by omega⟩ ?_
        rintro q fr w12 ⟨E12, hq⟩
        show Code.wp _ _ _ (Fa fr [(35, .int .i64 (i : Int)), (33, .slice Ap (pwr x c).length cp), (34, .int .i64 ((pwr x c).length : Int)), (3, .pointer (some ⟨b2, 0, none⟩)), (4, .pointer (some ⟨b4, 0, none⟩)), (5, .int .i64 c), (11, .int .i64 ((q : Int) + 1)), (7, .int .i64 (i : Int)), (8, .int .i64 (gt x (rB x c) (i : Int) x.g.length)), (9, .slice A (l.length + 1) cc), (10, .bool true)]) _
        replace ht := tape_rel ht E12 (fun x hx => show ¬ (w9.heap.size ≤ x) by omega)
        replace HX := HX.rel E12 (fun x h1 h2 => show ¬ (w9.heap.size ≤ x) by omega)
        replace x4 := x4.rel E12 (show ¬ (w9.heap.size ≤ b4) by omega)
        replace HP := HP.rel E12 (fun x h1 h2 => show ¬ (w9.heap.size ≤ x) by omega)
        replace HC := HC.rel E12 (fun x h1 h2 => show ¬ (w9.heap.size ≤ x) by omega)
        have s12_E := E.size
        replace E := E.then E12 (fun x hx (e : w9.heap.size ≤ x) => show w.heap.size ≤ x by omega)
        have s12_E8 := E8.size
        replace E8 := E8.then E12 (fun x hx (e : w9.heap.size ≤ x) => show w7.heap.size ≤ x by omega)
        refine Sx.seq ?_
        refine Sx.seq ?_
        refine Sx.reg ?_
        refine Sx.sv (r_mv rfl) rfl (wnt0 rfl) ?_
        refine Sx.sv (r_le rfl rfl) rfl (wnt0 rfl) ?_
        refine wnil ?_
        refine Sx.nT ?_
        by_cases hq3 : q < 3
        · refine Sx.ct rfl (decide_eq_true (by omega)) ?_
          refine wp_skip ?_
          refine Sx.nT ?_
          refine Sx.seq ?_
          refine Sx.blk ?_
          refine Sx.seq ?_
          refine Sx.reg ?_
          refine Sx.sv (r_ldr ty31 rfl (x4.seg) rfl) rfl (wnt0 rfl) ?_
          refine Sx.sv (r_mv rfl) rfl (wnt0 rfl) ?_
          refine Sx.sv (r_mv rfl) rfl (wnt0 rfl) ?_
          refine Sx.sv (r_mv rfl) rfl (wnt0 rfl) ?_
          refine Sx.sv (r_mv rfl) rfl (wnt0 rfl) ?_
          have tq13_ht := tape_lt ht
          refine Sx.sc (r_call en19 rfl) rfl (wnt0 rfl) (proves_any x v c (i : Int) ((q : Int) + 1) l j A cc _ (HX.ok.base (Nat.zero_le _)) hok hc ⟨by omega, by omega⟩ ⟨by omega, by omega⟩ (HC.ok.base (Nat.zero_le _)) hcc (by omega) hj hp hb) ?_
          rintro e w13 ⟨rfl, hb13⟩
          refine ⟨_, rfl, ?_⟩
          have r13 := Rel.of0 hb13
          replace ht := tape_rel ht r13 (fun _ _ h => h)
          replace HX := HX.nw r13
          replace x4 := x4.nw r13
          replace HP := HP.nw r13
          replace HC := HC.nw r13
          replace E := E.then r13 (fun _ _ h => h.elim)
          replace E8 := E8.then r13 (fun _ _ h => h.elim)
          replace E12 := E12.then r13 (fun _ _ h => h.elim)
          refine Sx.sv (r_mv rfl) rfl (wnt0 rfl) ?_
          refine Sx.sv (r_mv rfl) rfl (wnt0 rfl) ?_
          refine Sx.sv (r_mv rfl) rfl (wnt1 (dj := 62) (b0 := true) rfl rfl rfl rfl (rfl) rfl) ?_
          refine Sx.sv (r_mv rfl) rfl (wnt1 (dj := 62) (b0 := true) rfl rfl rfl rfl (rfl) rfl) ?_
          refine Sx.sv (r_le rfl rfl) rfl (wnt1 (dj := 62) (b0 := true) rfl rfl rfl rfl (rfl) rfl) ?_
          refine Sx.sv (r_pkT rfl (rfl) rfl) rfl (wnt0 rfl) ?_
          refine Sx.sv (r_neb Try.underlying4 rfl rfl) rfl (wnt0 rfl) ?_
          refine wnil ?_
          refine Sx.nT ?_
          refine Sx.cf rfl (by rw [hgc]; simp) ?_
          refine wp_skip ?_
          refine Sx.nB ?_
          refine Sx.nT ?_
          refine Sx.reg ?_
          refine Sx.sv (r_mv rfl) rfl (wnt0 rfl) ?_
          refine Sx.sv (r_add rfl rfl (by omega) (by omega)) rfl (wnt0 rfl) ?_
          refine Sx.sv (r_as rfl) rfl (wnt0 rfl) ?_
          refine wnil ?_
          refine Sx.nT ?_
          exact Sx.lpe (q + 1) ⟨rfl, rfl, rfl, rfl, rfl, rfl, rfl, rfl, rfl, rfl, rfl, trivial⟩ ⟨E12, by omega⟩ (show _ - (q + 1) < _ - q by omega)
        · refine Sx.cf rfl (decide_eq_false (by omega)) ?_
          refine wp_exit ?_
          refine Sx.eT ?_
          refine Sx.eT ?_
          refine Sx.eB ?_
          refine Sx.nB ?_
          refine Sx.nT ?_
          refine Sx.reg ?_
          refine Sx.sv (r_add rfl rfl (by omega) (by omega)) rfl (wnt0 rfl) ?_
          refine Sx.sv (r_mv rfl) rfl (wnt0 rfl) ?_
          refine wnil ?_
          refine Sx.nT ?_
          exact Sx.lpe (i + 1) ⟨rfl, rfl, rfl, rfl, rfl, rfl, trivial⟩ ⟨E8, hlt⟩ (show _ - (i + 1) < _ - i by omega)
    · refine Sx.cf rfl (decide_eq_false (by omega)) ?_
      refine wp_exit ?_
      refine Sx.eT ?_
      refine Sx.eT ?_
      refine Sx.eB ?_
      refine Sx.nT ?_
      refine Sx.seq ?_
      refine Sx.reg ?_
      have tq14_ht := tape_lt ht
      refine Sx.sc (r_call en7 rfl) rfl (wnt0 rfl) (awake_any _) ?_
      rintro e w14 ⟨rfl, hb14⟩
      refine ⟨_, rfl, ?_⟩
      have r14 := Rel.of0 hb14
      replace ht := tape_rel ht r14 (fun _ _ h => h)
      replace HX := HX.nw r14
      replace x4 := x4.nw r14
      replace HP := HP.nw r14
      replace E := E.then r14 (fun _ _ h => h.elim)
      refine Sx.sv (r_as rfl) rfl (wnt0 rfl) ?_
      refine wnil ?_
      refine Sx.nT ?_
      refine wp_ret ?_
      exact Sx.ret1 Try.results5 rfl ⟨rfl, E.toB0⟩

/-! ### THE ROW's STEP: WRITTEN OUT: LEAVE IT -/
set_option maxRecDepth 100000 in
theorem lifted (os : Os) (started : os.Started) (H : Type) (enc : TypeId × Value → H) :
    ReturnsInHanded {} Try.checked os 5 .any (Rows.rightsChainsSpec.pre6 enc Try.prog Try.f5 Rows.rightsChainsRow.domain false) (Rows.rightsChainsSpec.post enc Try.prog Try.f5 false true false false) := by
  refine returnsInHanded_of_change (C := Try.checked) own started (by kernel_rfl) Try.func5
    (ChangeSpec.witness6 (enc := enc) (C := Try.checked) false ⟨#[], #[.slice none 0 0], []⟩ 8 (by kernel_rfl) (by kernel_rfl) (by kernel_rfl) (by kernel_rfl)) ?_
  intro W base args ds gs before hval0 hW hcnd _
  have hval : ∀ (j : Nat) t v, Try.f5.params[j]? = some t → args[j]? = some v → Value.okWide Try.prog W .any base t v := hval0
  have hW' := hW
  obtain ⟨p, q, hA0, hV, rfl, hfz, hnd⟩ := hW
  have hA : DataW.TrodAll enc Try.prog W 0 (fun _ => true) true Try.f5.params.toList args.toList ds p := hA0
  rw [Try.params5] at hA hval
  obtain ⟨v0, vs0, d0, ds0, p0, q0, hargs, rfl, rfl, h0, r0⟩ := trodAll_cons hA
  obtain ⟨rfl, rfl, rfl⟩ := trodAll_nil r0
  obtain rfl : args = #[v0] := by cases args; simp_all
  obtain ⟨rfl, rfl⟩ := trodVars_none hV
  obtain ⟨a0, len0, cap0, rfl⟩ := okWide_slice Try.underlying22 (hval 0 22 v0 rfl rfl)
  have k0 := h0
  have lt0 : ∀ x ∈ p0, x.block < W.heap.size := by obtain ⟨m, hm⟩ := k0; exact DataW.trod_lt m _ _ _ hm
  obtain ⟨z0, w0⟩ : ∃ zs, IsRow .i64 W a0 len0 cap0 zs := by
    obtain ⟨fuel, hf⟩ := h0
    rcases open_ints Try.underlying22 Try.underlying3 (by kernel_rfl) hf with ⟨hcs, _⟩ | ⟨x, l, c, zs, hcs, _, hl, hm, hz, _, hcell, hwz⟩
    · simp [Value.cells] at hcs
      obtain ⟨rfl, rfl, rfl⟩ := hcs
      exact ⟨[], .inl ⟨rfl, rfl, rfl, rfl⟩⟩
    · simp [Value.cells] at hcs
      obtain ⟨rfl, rfl, rfl⟩ := hcs
      exact ⟨zs, .inr ⟨_, rfl, hl, hm, by simpa using hz, hcell, hwz⟩⟩
  clear hA0 hval0
  refine (walk a0 len0 cap0 z0 W w0).mono fun e W' ⟨he, bel⟩ => ?_
  subst he
  exact ⟨_, rfl, _, _, _, [], _, [], hW', trodAll_mk1 (shut_bool Try.underlying4 _), (trodAll_cons_mk (Below.trod laidOut (by kernel_rfl) (of_decide_eq_true (by kernel_rfl)) k0 bel lt0) trodAll_mk0), rfl, bel.frame _, fun h => by cases h⟩

theorem over : Rows.rightsChainsRow.holds Try.pinned (OpenSpec.ofChange Rows.rightsChainsSpec) :=
  OpenClaim.holds_of_wide 5 Try.f5 rfl rfl rfl rfl rfl rfl rfl ⟨rfl, rfl, rfl, rfl, rfl⟩ rfl rfl rfl rfl rfl (by kernel_rfl) Try.func5 (by kernel_rfl)
    (of_decide_eq_true (by kernel_rfl)) (by unfold Func.isWrapper; first | (rw [if_pos (by decide +kernel)]; kernel_rfl) | (rw [if_neg (by decide +kernel)]; exact ⟨rfl, rfl⟩))
    (fun os started H enc _ => lifted os started H enc)

/-- ████ THE STATEMENT ████ -/
theorem proved : Rows.RightsChainsSaid := over
#print axioms proved
end Go.Proofs.Ytahggnlmabdbbaa.rightsChains
