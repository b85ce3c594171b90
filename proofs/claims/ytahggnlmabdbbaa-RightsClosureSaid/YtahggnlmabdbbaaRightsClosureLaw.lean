/-
  The Go function leakresponse/leakresponselaw25.RightsClosure returns true for every list of numbers, and leaves what was there as it was; no conditions. What is reached is a closed set whose bound is the power, and a closed set with the credential bounds the power from above.
-/
import Derived.Test.YtahggnlmabdbbaaLwF
import Derived.Test.YtahggnlmabdbbaaRows
namespace Go.Proofs.Ytahggnlmabdbbaa.rightsClosure
open Go.ChangeShapes Go.WideShapes Go.ChangeAt Go.RowKit Go.Shelf Go.Maps
open Go.ChangeMaps (open_string shut_string)
open Go.Proofs.Ytahggnlmabdbbaa.Tp
open Go.Proofs.Ytahggnlmabdbbaa.Di
open Go.Proofs.Ytahggnlmabdbbaa.Sx
set_option linter.unusedVariables false

set_option maxRecDepth 100000 in
set_option maxHeartbeats 16000000 in
theorem walk (a0 : Option Addr) (len0 cap0 : Nat) (z0 : List Int) (w : World) (w0 : IsRow .i64 w a0 len0 cap0 z0) :
    Calls Try.prog 3 #[.slice a0 len0 cap0] w fun e w' => e = .returned (.bool true) ∧ Below w.heap.size w w' := by
  have hm0 := w0.at_.1
  unfold maxLen at hm0
  have E : Rel (fun x => w.heap.size ≤ x) w w := Rel.refl _ _
  refine Sx.enter Try.func3 rfl Try.ntmps3 rfl (fun fr => ?_)
  refine Sx.seq ?_
  refine Sx.reg ?_
  refine Sx.sv (r_as rfl) rfl (wnt0 rfl) ?_
  refine wnil ?_
  refine Sx.nT ?_
  refine Sx.seq ?_
  refine Sx.seq ?_
  refine Sx.reg ?_
  refine Sx.sv (r_mv rfl) rfl (wnt0 rfl) ?_
  refine Sx.sv (r_ln Try.underlying22 rfl) rfl (wnt0 rfl) ?_
  refine Sx.sv (r_gt rfl rfl) rfl (wnt0 rfl) ?_
  refine wnil ?_
  refine Sx.nT ?_
  by_cases hlen : 300 < len0
  · refine Sx.ct rfl (decide_eq_true (by omega)) ?_
    refine Sx.seq ?_
    refine Sx.reg ?_
    refine Sx.sc (r_call en7 rfl) rfl (wnt0 rfl) (awake_any _) ?_
    rintro e w1 ⟨rfl, hb1⟩
    refine ⟨_, rfl, ?_⟩
    have r1 := Rel.of0 hb1
    replace E := E.then r1 (fun _ _ h => h.elim)
    refine Sx.sv (r_as rfl) rfl (wnt0 rfl) ?_
    refine wnil ?_
    refine Sx.nT ?_
    refine wp_ret ?_
    refine Sx.rT ?_
    exact Sx.ret1 Try.results3 rfl ⟨rfl, E.toB0⟩
  · skip
    refine Sx.cf rfl (decide_eq_false (by omega)) ?_
    refine wp_skip ?_
    refine Sx.nT ?_
    refine Sx.seq ?_
    refine Sx.reg ?_
    refine Sx.sv (r_mv rfl) rfl (wnt0 rfl) ?_
    refine Sx.sv (r_bld rfl (bd26_0 _ _ _)) rfl (wnt0 rfl) ?_
    refine Sx.sy (y_box rfl rfl) rfl (wnt0 rfl) ?_
    rintro _ w2 ⟨b2, rfl, n2, x2⟩
    have g2 : w.heap.size ≤ b2 := Nat.le_trans E.size n2.ge
    replace E := E.then n2.r (fun _ _ h => h.elim)
    refine Sx.sv (r_as rfl) rfl (wnt0 rfl) ?_
    refine wnil ?_
    refine Sx.nT ?_
    refine Sx.seq ?_
    refine Sx.reg ?_
    refine Sx.sv (r_mv rfl) rfl (wnt0 rfl) ?_
    have ht := tape_of w0 n2 x2
    have lT := x2.lt
    have tq3_ht := tape_lt ht
    refine Sx.sc (r_call en8 rfl) rfl (wnt0 rfl) (rights_any b2 _ ht lT) ?_
    rintro e w3 ⟨x, v, rfl, hmk, hrl, hg3, ht3⟩
    refine ⟨_, rfl, ?_⟩
    have r3 := Rel.ofT hg3
    replace E := E.then r3 (fun x hx (e : x = b2) => show w.heap.size ≤ x by omega)
    replace ht := ht3
    have HX := Has.rl hrl
    have hok := hmk.ok
    have hc1 := hmk.c1
    have hc6 := hmk.c6
    have hk1 := hmk.k1
    have hk5 := hmk.k5
    have hg7 := hmk.g7
    have hs4 := hmk.s4
    have hm3 := hmk.m3
    have hsz : szs x := ⟨by omega, by omega, by omega⟩
    refine Sx.sy (y_all zi31 rfl) rfl (wnt0 rfl) ?_
    rintro _ w4 ⟨b4, rfl, n4, x4⟩
    have l4_ht : b2 < b4 := Nat.lt_of_lt_of_le (tape_lt ht) n4.ge
    have l4_HX : w3.heap.size ≤ b4 := Nat.le_trans HX.le n4.ge
    have g4 : w.heap.size ≤ b4 := Nat.le_trans E.size n4.ge
    replace ht := tape_rel ht n4.r (fun _ _ h => h)
    replace HX := HX.nw n4.r
    replace E := E.then n4.r (fun _ _ h => h.elim)
    refine Sx.syu (u_stR ty31 rfl rfl rfl x4 rfl rfl) rfl (wnt0 rfl) ?_
    rintro w5 ⟨r5, z5, x5n⟩
    replace ht := tape_rel ht r5 (fun b hb (e : b = b4) => by omega)
    replace HX := HX.ch r5 (by omega)
    replace E := E.then r5 (fun x hx (e : x = b4) => show w.heap.size ≤ x by omega)
    replace x4 := x5n; clear x5n
    refine wnil ?_
    refine Sx.nT ?_
    refine Sx.seq ?_
    refine Sx.reg ?_
    refine Sx.sv (r_mv rfl) rfl (wnt0 rfl) ?_
    refine Sx.sv (r_fa fo31_0 rfl) rfl (wnt0 rfl) ?_
    refine Sx.sv (r_ld ty3 rfl (x4.seg) rfl) rfl (wnt0 rfl) ?_
    have tq6_ht := tape_lt ht
    refine Sx.sc (r_call en9 rfl) rfl (wnt0 rfl) (next_any b2 x.c _ ht (by omega) (by omega)) ?_
    rintro e w6 ⟨z6, p6, q6, rfl, hg6, ht6⟩
    refine ⟨_, rfl, ?_⟩
    have r6 := Rel.ofT hg6
    replace HX := HX.ch r6 (by omega)
    replace x4 := x4.ch r6 (by omega)
    replace E := E.then r6 (fun x hx (e : x = b2) => show w.heap.size ≤ x by omega)
    replace ht := ht6
    have hc : 0 ≤ z6 ∧ z6 < x.c := ⟨by omega, by omega⟩
    generalize z6 = c at *
    refine Sx.sv (r_as rfl) rfl (wnt0 rfl) ?_
    refine wnil ?_
    refine Sx.nT ?_
    refine Sx.seq ?_
    refine Sx.drg 8 (fun w7 wv => Rel (fun x => w7.heap.size ≤ x) w7 wv) mx (fun w7 hd => ?_)
    replace ht := tape_rel ht hd (fun _ _ h => h)
    replace HX := HX.nw hd
    replace x4 := x4.nw hd
    replace E := E.then hd (fun _ _ h => h.elim)
    have q_HX := HX.le
    have q_x4 := x4.lt
    have d_HX := HX
    have d_x4 := x4
    have hS : Rel (fun x => w7.heap.size ≤ x) w7 w7 := Rel.refl _ _
    refine Sx.dt (i := 0) rfl (by kernel_rfl) (by kernel_rfl) (by kernel_rfl) (by kernel_rfl) (fun _ _ _ _ h => h) rfl (wnt0 rfl) (fun wv h2 => r_ldr ty31 rfl ((d_x4.rel h2 (show ¬ (w7.heap.size ≤ b4) from by omega)).seg) rfl) hS ?_
    refine Sx.dt (i := 1) rfl (by kernel_rfl) (by kernel_rfl) (by kernel_rfl) (by kernel_rfl) (fun _ _ _ _ h => h) rfl (wnt0 rfl) (fun wv h2 => r_mv rfl) hS ?_
    refine Sx.dt (i := 3) rfl (by kernel_rfl) (by kernel_rfl) (by kernel_rfl) (by kernel_rfl) (fun _ _ _ _ h => h) rfl (wnt0 rfl) (fun wv h2 => r_ldr ty31 rfl ((d_x4.rel h2 (show ¬ (w7.heap.size ≤ b4) from by omega)).seg) rfl) hS ?_
    refine Sx.dt (i := 4) rfl (by kernel_rfl) (by kernel_rfl) (by kernel_rfl) (by kernel_rfl) (fun _ _ _ _ h => h) rfl (wnt0 rfl) (fun wv h2 => r_mv rfl) hS ?_
    have tq8_ht := tape_lt ht
    refine Sx.da1 (i := 2) (by kernel_rfl) ?_
    refine Sx.wc rfl (wnt0 rfl) rfl (r_call en10 rfl) (reach_yes x v c _ (HX.ok.base (Nat.zero_le _)) hsz ⟨hok, hc⟩) ?_
    rintro e w8 ⟨Ar, cr, rfl, hro, hb8⟩
    have r8 := Rel.of0 hb8
    replace ht := tape_rel ht r8 (fun _ _ h => h)
    replace HX := HX.nw r8
    replace x4 := x4.nw r8
    replace E := E.then r8 (fun _ _ h => h.elim)
    replace hS : Rel (fun x => w7.heap.size ≤ x) w7 w8 := hS.then r8 (fun _ _ h => h.elim)
    refine ⟨_, rfl, .inr hS, ?_⟩
    have HR := Has.row (row_of_own hro)
    have tq9_ht := tape_lt ht
    refine Sx.da1 (i := 5) (by kernel_rfl) ?_
    refine Sx.wc rfl (wnt0 rfl) rfl (r_call en11 rfl) (power_yes x v c _ (HX.ok.base (Nat.zero_le _)) hsz ⟨hok, hc⟩) ?_
    rintro e w9 ⟨Ap, cp, rfl, hpo, hb9⟩
    have r9 := Rel.of0 hb9
    replace ht := tape_rel ht r9 (fun _ _ h => h)
    replace HX := HX.nw r9
    replace x4 := x4.nw r9
    replace HR := HR.nw r9
    replace E := E.then r9 (fun _ _ h => h.elim)
    replace hS : Rel (fun x => w7.heap.size ≤ x) w7 w9 := hS.then r9 (fun _ _ h => h.elim)
    refine ⟨_, rfl, .inr hS, ?_⟩
    have HP := Has.row (row_of_own hpo)
    refine Sx.dt (i := 6) rfl (by kernel_rfl) (by kernel_rfl) (by kernel_rfl) (by kernel_rfl) (fun _ _ _ _ h => h) rfl (wnt0 rfl) (fun wv h2 => r_as rfl) hS ?_
    refine Sx.dt (i := 7) rfl (by kernel_rfl) (by kernel_rfl) (by kernel_rfl) (by kernel_rfl) (fun _ _ _ _ h => h) rfl (wnt0 rfl) (fun wv h2 => r_as rfl) hS ?_
    refine Sx.dz (by kernel_rfl) ?_
    clear hS d_HX d_x4
    refine Sx.nT ?_
    refine Sx.seq ?_
    refine Sx.seq ?_
    refine Sx.reg ?_
    refine Sx.sv (r_mv rfl) rfl (wnt0 rfl) ?_
    refine Sx.sv (r_mv rfl) rfl (wnt0 rfl) ?_
    have hrl24 := rl_len hok c
    have hpl : (pwr x c).length = x.k.toNat := pw_len _ _
    have hmem := rl_mem hok hc
    have tq10_ht := tape_lt ht
    refine Sx.sc (r_call en12 rfl) rfl (wnt0 rfl) (has_any (rl x c) c Ar cr _ (HR.ok.base (Nat.zero_le _)) (by omega)) ?_
    rintro e w10 ⟨rfl, rfl⟩
    refine ⟨_, rfl, ?_⟩
    refine Sx.sv (r_not rfl) rfl (wnt0 rfl) ?_
    refine Sx.sv (r_mv rfl) rfl (wnt0 rfl) ?_
    refine Sx.sv (r_ldr ty31 rfl (x4.seg) rfl) rfl (wnt1 (dj := 37) (b0 := false) rfl rfl rfl rfl (congrArg (fun z => !z) (inB_iff.2 ((hmem c).2 (.refl _ _)))) rfl) ?_
    refine Sx.sv (r_mv rfl) rfl (wnt1 (dj := 37) (b0 := false) rfl rfl rfl rfl (congrArg (fun z => !z) (inB_iff.2 ((hmem c).2 (.refl _ _)))) rfl) ?_
    have tq11_ht := tape_lt ht
    refine Sx.sc (r_call en13 rfl) rfl (wnt1 (dj := 37) (b0 := false) rfl rfl rfl rfl (congrArg (fun z => !z) (inB_iff.2 ((hmem c).2 (.refl _ _)))) rfl) (closed_any x v (rl x c) Ar cr _ (HX.ok.base (Nat.zero_le _)) (HR.ok.base (Nat.zero_le _)) (SetP.reach hok hc)) ?_
    rintro e w11 ⟨rfl, hb11⟩
    refine ⟨_, rfl, ?_⟩
    have r11 := Rel.of0 hb11
    replace ht := tape_rel ht r11 (fun _ _ h => h)
    replace HX := HX.nw r11
    replace x4 := x4.nw r11
    replace HR := HR.nw r11
    replace HP := HP.nw r11
    replace E := E.then r11 (fun _ _ h => h.elim)
    refine Sx.sv (r_not rfl) rfl (wnt1 (dj := 37) (b0 := false) rfl rfl rfl rfl (congrArg (fun z => !z) (inB_iff.2 ((hmem c).2 (.refl _ _)))) rfl) ?_
    refine Sx.sv (r_pkF rfl (congrArg (fun z => !z) (inB_iff.2 ((hmem c).2 (.refl _ _)))) rfl) rfl (wnt0 rfl) ?_
    refine Sx.sv (r_mv rfl) rfl (wnt0 rfl) ?_
    refine Sx.sv (r_ldr ty31 rfl (x4.seg) rfl) rfl (wnt1 (dj := 43) (b0 := false) rfl rfl rfl rfl (congrArg (fun z => !z) (cloB_yes (cloP.reach hok hc))) rfl) ?_
    refine Sx.sv (r_mv rfl) rfl (wnt1 (dj := 43) (b0 := false) rfl rfl rfl rfl (congrArg (fun z => !z) (cloB_yes (cloP.reach hok hc))) rfl) ?_
    have hbo := bound_any x v (rl x c) Ar cr _ (HX.ok.base (Nat.zero_le _)) (HR.ok.base (Nat.zero_le _)) (SetP.reach hok hc) (cloP.reach hok hc)
    rw [pw_rl ⟨hok, hc⟩] at hbo
    have tq12_ht := tape_lt ht
    refine Sx.sc (r_call en15 rfl) rfl (wnt1 (dj := 43) (b0 := false) rfl rfl rfl rfl (congrArg (fun z => !z) (cloB_yes (cloP.reach hok hc))) rfl) (hbo) ?_
    rintro e w12 ⟨Ab, cb, rfl, hbo2, hb12⟩
    refine ⟨_, rfl, ?_⟩
    have r12 := Rel.of0 hb12
    replace ht := tape_rel ht r12 (fun _ _ h => h)
    replace HX := HX.nw r12
    replace x4 := x4.nw r12
    replace HR := HR.nw r12
    replace HP := HP.nw r12
    replace E := E.then r12 (fun _ _ h => h.elim)
    refine Sx.sv (r_mv rfl) rfl (wnt1 (dj := 43) (b0 := false) rfl rfl rfl rfl (congrArg (fun z => !z) (cloB_yes (cloP.reach hok hc))) rfl) ?_
    have tq13_ht := tape_lt ht
    refine Sx.sc (r_call en14 rfl) rfl (wnt1 (dj := 43) (b0 := false) rfl rfl rfl rfl (congrArg (fun z => !z) (cloB_yes (cloP.reach hok hc))) rfl) (ints_any (pwr x c) (pwr x c) Ab Ap cb cp _ ((row_of_own hbo2).base (Nat.zero_le _)) (HP.ok.base (Nat.zero_le _)) (by omega)) ?_
    rintro e w13 ⟨rfl, r13⟩
    refine ⟨_, rfl, ?_⟩
    have r13 := r13
    replace ht := tape_rel ht r13 (fun _ _ h => h)
    replace HX := HX.nw r13
    replace x4 := x4.nw r13
    replace HR := HR.nw r13
    replace HP := HP.nw r13
    replace E := E.then r13 (fun _ _ h => h.elim)
    refine Sx.sv (r_not rfl) rfl (wnt1 (dj := 43) (b0 := false) rfl rfl rfl rfl (congrArg (fun z => !z) (cloB_yes (cloP.reach hok hc))) rfl) ?_
    refine Sx.sv (r_pkF rfl (congrArg (fun z => !z) (cloB_yes (cloP.reach hok hc))) rfl) rfl (wnt0 rfl) ?_
    refine Sx.sv (r_mv rfl) rfl (wnt0 rfl) ?_
    refine Sx.sv (r_mv rfl) rfl (wnt1 (dj := 51) (b0 := false) rfl rfl rfl rfl (congrArg (fun z => !z) (decide_eq_true rfl)) rfl) ?_
    refine Sx.sv (r_ln Try.underlying22 rfl) rfl (wnt1 (dj := 51) (b0 := false) rfl rfl rfl rfl (congrArg (fun z => !z) (decide_eq_true rfl)) rfl) ?_
    refine Sx.sv (r_fa fo31_1 rfl) rfl (wnt1 (dj := 51) (b0 := false) rfl rfl rfl rfl (congrArg (fun z => !z) (decide_eq_true rfl)) rfl) ?_
    refine Sx.sv (r_ld ty3 rfl (x4.seg) rfl) rfl (wnt1 (dj := 51) (b0 := false) rfl rfl rfl rfl (congrArg (fun z => !z) (decide_eq_true rfl)) rfl) ?_
    refine Sx.sv (r_ne rfl rfl) rfl (wnt1 (dj := 51) (b0 := false) rfl rfl rfl rfl (congrArg (fun z => !z) (decide_eq_true rfl)) rfl) ?_
    refine Sx.sv (r_pkF rfl (congrArg (fun z => !z) (decide_eq_true rfl)) rfl) rfl (wnt0 rfl) ?_
    refine wnil ?_
    refine Sx.nT ?_
    refine Sx.cf rfl (decide_eq_false (by omega)) ?_
    refine wp_skip ?_
    refine Sx.nT ?_
    refine Sx.seq ?_
    refine Sx.seq ?_
    refine Sx.reg ?_
    refine Sx.sv (r_as rfl) rfl (wnt0 rfl) ?_
    refine wnil ?_
    refine Sx.nT ?_
    refine Sx.blk ?_
    have t14_HX := HX.le
    have t14_x4 := x4.lt
    have t14_HR := HR.le
    have t14_HP := HP.le
    refine Sx.lp (Nat) (fun k => [(8, .int .i64 (k : Int)), (3, .pointer (some ⟨b2, 0, none⟩)), (4, .pointer (some ⟨b4, 0, none⟩)), (5, .int .i64 c), (6, .slice Ar (rl x c).length cr), (7, .slice Ap (pwr x c).length cp)]) (fun k wr => Rel (fun x => x = b2 ∨ w13.heap.size ≤ x) w13 wr ∧ TapeOk wr b2 ∧ k ≤ 6) (fun k => 6 - k) 0 ⟨rfl, rfl, rfl, rfl, rfl, rfl, trivial⟩ ⟨Rel.refl _ _, ht, by omega⟩ ?_
    rintro k fr w14 ⟨E14, htn, hk⟩
    show Code.wp _ _ _ (Fa fr [(8, .int .i64 (k : Int)), (3, .pointer (some ⟨b2, 0, none⟩)), (4, .pointer (some ⟨b4, 0, none⟩)), (5, .int .i64 c), (6, .slice Ar (rl x c).length cr), (7, .slice Ap (pwr x c).length cp)]) _
    replace ht := htn; clear htn
    replace HX := HX.rel E14 (fun x h1 h2 => show ¬ (x = b2 ∨ w13.heap.size ≤ x) by omega)
    replace x4 := x4.rel E14 (show ¬ (b4 = b2 ∨ w13.heap.size ≤ b4) by omega)
    replace HR := HR.rel E14 (fun x h1 h2 => show ¬ (x = b2 ∨ w13.heap.size ≤ x) by omega)
    replace HP := HP.rel E14 (fun x h1 h2 => show ¬ (x = b2 ∨ w13.heap.size ≤ x) by omega)
    have s14_E := E.size
    replace E := E.then E14 (fun x hx (e : x = b2 ∨ w13.heap.size ≤ x) => show w.heap.size ≤ x by omega)
    refine Sx.seq ?_
    refine Sx.seq ?_
    refine Sx.reg ?_
    refine Sx.sv (r_mv rfl) rfl (wnt0 rfl) ?_
    refine Sx.sv (r_lt rfl rfl) rfl (wnt0 rfl) ?_
    refine wnil ?_
    refine Sx.nT ?_
    by_cases hk6 : k < 6
    · refine Sx.ct rfl (decide_eq_true (by omega)) ?_
      refine wp_skip ?_
      refine Sx.nT ?_
      refine Sx.seq ?_
      refine Sx.blk ?_
      refine Sx.seq ?_
      refine Sx.reg ?_
      refine Sx.sv (r_mv rfl) rfl (wnt0 rfl) ?_
      refine Sx.sv (r_fa fo31_0 rfl) rfl (wnt0 rfl) ?_
      refine Sx.sv (r_ld ty3 rfl (x4.seg) rfl) rfl (wnt0 rfl) ?_
      obtain ⟨n, hn⟩ : ∃ n : Nat, x.c = (n : Int) := ⟨x.c.toNat, by omega⟩
      have hfe := few_any b2 n 2 _ ht (tape_lt ht) (by omega) (by omega)
      rw [← hn] at hfe
      have tq15_ht := tape_lt ht
      refine Sx.sc (r_call en16 rfl) rfl (wnt0 rfl) (hfe) ?_
      rintro e w15 ⟨l, Al, cl, rfl, hF, hlo, hg15, ht15⟩
      refine ⟨_, rfl, ?_⟩
      have r15 := Rel.ofT hg15
      replace HX := HX.ch r15 (by omega)
      replace x4 := x4.ch r15 (by omega)
      replace HR := HR.ch r15 (by omega)
      replace HP := HP.ch r15 (by omega)
      replace E := E.then r15 (fun x hx (e : x = b2) => show w.heap.size ≤ x by omega)
      replace E14 := E14.then r15 (fun x hx (e : x = b2) => show x = b2 ∨ w13.heap.size ≤ x by omega)
      replace ht := ht15
      have HS := Has.row (row_of_own hlo)
      have hll := hF.len
      refine Sx.sv (r_as rfl) rfl (wnt0 rfl) ?_
      refine wnil ?_
      refine Sx.nT ?_
      refine Sx.seq ?_
      refine Sx.seq ?_
      refine Sx.reg ?_
      refine Sx.sv (r_mv rfl) rfl (wnt0 rfl) ?_
      refine Sx.sv (r_mv rfl) rfl (wnt0 rfl) ?_
      have tq16_ht := tape_lt ht
      refine Sx.sc (r_call en12 rfl) rfl (wnt0 rfl) (has_any l c Al cl _ (HS.ok.base (Nat.zero_le _)) (by omega)) ?_
      rintro e w16 ⟨rfl, rfl⟩
      refine ⟨_, rfl, ?_⟩
      by_cases hi : inB l c = true
      · refine Sx.sv (r_not rfl) rfl (wnt0 rfl) ?_
        refine Sx.sv (r_mv rfl) rfl (wnt0 rfl) ?_
        refine Sx.sv (r_ldr ty31 rfl (x4.seg) rfl) rfl (wnt1 (dj := 70) (b0 := false) rfl rfl rfl rfl (congrArg (fun z => !z) (hi)) rfl) ?_
        refine Sx.sv (r_mv rfl) rfl (wnt1 (dj := 70) (b0 := false) rfl rfl rfl rfl (congrArg (fun z => !z) (hi)) rfl) ?_
        have hSP : SetP x l := SetP.few hok hn.symm hF (by cases l with | nil => exact absurd (inB_iff.1 hi) (by simp) | cons a l => simp)
        have tq17_ht := tape_lt ht
        refine Sx.sc (r_call en13 rfl) rfl (wnt1 (dj := 70) (b0 := false) rfl rfl rfl rfl (congrArg (fun z => !z) (hi)) rfl) (closed_any x v l Al cl _ (HX.ok.base (Nat.zero_le _)) (HS.ok.base (Nat.zero_le _)) hSP) ?_
        rintro e w17 ⟨rfl, hb17⟩
        refine ⟨_, rfl, ?_⟩
        have r17 := Rel.of0 hb17
        replace ht := tape_rel ht r17 (fun _ _ h => h)
        replace HX := HX.nw r17
        replace x4 := x4.nw r17
        replace HR := HR.nw r17
        replace HP := HP.nw r17
        replace HS := HS.nw r17
        replace E := E.then r17 (fun _ _ h => h.elim)
        replace E14 := E14.then r17 (fun _ _ h => h.elim)
        by_cases hcl : cloP x l
        · refine Sx.sv (r_not rfl) rfl (wnt1 (dj := 70) (b0 := false) rfl rfl rfl rfl (congrArg (fun z => !z) (hi)) rfl) ?_
          refine Sx.sv (r_pkF rfl (congrArg (fun z => !z) (hi)) rfl) rfl (wnt0 rfl) ?_
          refine wnil ?_
          refine Sx.nT ?_
          refine Sx.cf rfl (congrArg (fun z => !z) (cloB_yes hcl)) ?_
          refine wp_skip ?_
          refine Sx.nT ?_
          refine Sx.seq ?_
          refine Sx.reg ?_
          refine Sx.sv (r_ldr ty31 rfl (x4.seg) rfl) rfl (wnt0 rfl) ?_
          refine Sx.sv (r_mv rfl) rfl (wnt0 rfl) ?_
          have tq18_ht := tape_lt ht
          refine Sx.sc (r_call en15 rfl) rfl (wnt0 rfl) (bound_any x v l Al cl _ (HX.ok.base (Nat.zero_le _)) (HS.ok.base (Nat.zero_le _)) hSP hcl) ?_
          rintro e w18 ⟨Ab2, cb2, rfl, hbo3, hb18⟩
          refine ⟨_, rfl, ?_⟩
          have r18 := Rel.of0 hb18
          replace ht := tape_rel ht r18 (fun _ _ h => h)
          replace HX := HX.nw r18
          replace x4 := x4.nw r18
          replace HR := HR.nw r18
          replace HP := HP.nw r18
          replace HS := HS.nw r18
          replace E := E.then r18 (fun _ _ h => h.elim)
          replace E14 := E14.then r18 (fun _ _ h => h.elim)
          have HB := Has.row (row_of_own hbo3)
          have hbl : (pw x (inB l)).length = x.k.toNat := pw_len _ _
          refine Sx.sv (r_as rfl) rfl (wnt0 rfl) ?_
          refine wnil ?_
          refine Sx.nT ?_
          refine Sx.seq ?_
          refine Sx.seq ?_
          refine Sx.reg ?_
          refine Sx.sv (r_mv rfl) rfl (wnt0 rfl) ?_
          refine Sx.sv (r_ln Try.underlying22 rfl) rfl (wnt0 rfl) ?_
          refine Sx.sv (r_mv rfl) rfl (wnt0 rfl) ?_
          refine Sx.sv (r_ln Try.underlying22 rfl) rfl (wnt0 rfl) ?_
          refine Sx.sv (r_ne rfl rfl) rfl (wnt0 rfl) ?_
          refine wnil ?_
          refine Sx.nT ?_
          refine Sx.cf rfl (decide_eq_false (by omega)) ?_
          refine wp_skip ?_
          refine Sx.nT ?_
          refine Sx.seq ?_
          refine Sx.seq ?_
          refine Sx.reg ?_
          refine Sx.sv (r_mv rfl) rfl (wnt0 rfl) ?_
          refine Sx.sv (r_ln Try.underlying22 rfl) rfl (wnt0 rfl) ?_
          refine Sx.sv (r_mv rfl) rfl (wnt0 rfl) ?_
          refine wnil ?_
          refine Sx.nT ?_
          refine Sx.blk ?_
          have t19_HX := HX.le
          have t19_x4 := x4.lt
          have t19_HR := HR.le
          have t19_HP := HP.le
          have t19_HS := HS.le
          have t19_HB := HB.le
          refine Sx.lp (Nat) (fun i => [(86, .int .i64 (i : Int)), (85, .int .i64 ((pwr x c).length : Int)), (3, .pointer (some ⟨b2, 0, none⟩)), (4, .pointer (some ⟨b4, 0, none⟩)), (5, .int .i64 c), (6, .slice Ar (rl x c).length cr), (7, .slice Ap (pwr x c).length cp), (8, .int .i64 (k : Int)), (9, .slice Al l.length cl), (10, .slice Ab2 (pw x (inB l)).length cb2)]) (fun i wr => Rel (fun x => w18.heap.size ≤ x) w18 wr ∧ i ≤ (pwr x c).length) (fun i => (pwr x c).length - i) 0 ⟨rfl, rfl, rfl, rfl, rfl, rfl, rfl, rfl, rfl, rfl, trivial⟩ ⟨Rel.refl _ _, Nat.zero_le _⟩ ?_
          rintro i fr w19 ⟨E19, hi2⟩
          show Code.wp _ _ _ (Fa fr [(86, .int .i64 (i : Int)), (85, .int .i64 ((pwr x c).length : Int)), (3, .pointer (some ⟨b2, 0, none⟩)), (4, .pointer (some ⟨b4, 0, none⟩)), (5, .int .i64 c), (6, .slice Ar (rl x c).length cr), (7, .slice Ap (pwr x c).length cp), (8, .int .i64 (k : Int)), (9, .slice Al l.length cl), (10, .slice Ab2 (pw x (inB l)).length cb2)]) _
          replace ht := tape_rel ht E19 (fun x hx => show ¬ (w18.heap.size ≤ x) by omega)
          replace HX := HX.rel E19 (fun x h1 h2 => show ¬ (w18.heap.size ≤ x) by omega)
          replace x4 := x4.rel E19 (show ¬ (w18.heap.size ≤ b4) by omega)
          replace HR := HR.rel E19 (fun x h1 h2 => show ¬ (w18.heap.size ≤ x) by omega)
          replace HP := HP.rel E19 (fun x h1 h2 => show ¬ (w18.heap.size ≤ x) by omega)
          replace HS := HS.rel E19 (fun x h1 h2 => show ¬ (w18.heap.size ≤ x) by omega)
          replace HB := HB.rel E19 (fun x h1 h2 => show ¬ (w18.heap.size ≤ x) by omega)
          have s19_E := E.size
          replace E := E.then E19 (fun x hx (e : w18.heap.size ≤ x) => show w.heap.size ≤ x by omega)
          have s19_E14 := E14.size
          replace E14 := E14.then E19 (fun x hx (e : w18.heap.size ≤ x) => show x = b2 ∨ w13.heap.size ≤ x by omega)
          refine Sx.seq ?_
          refine Sx.reg ?_
          refine Sx.sv (r_lt rfl rfl) rfl (wnt0 rfl) ?_
          refine wnil ?_
          refine Sx.nT ?_
          refine Sx.seq ?_
          by_cases hlt : i < (pwr x c).length
          · refine Sx.ct rfl (decide_eq_true (by omega)) ?_
            obtain ⟨ba, oa, hA1, -, hba, hca⟩ := HB.ok.z (show i < (pw x (inB l)).length by omega)
            obtain ⟨bp, op, hA2, -, hbp, hcp⟩ := HP.ok.z hlt
            have m1 : Me _ ba (oa + i) [_] := .one hba hca
            have m2 : Me _ bp (op + i) [_] := .one hbp hcp
            refine wp_skip ?_
            refine Sx.nT ?_
            refine Sx.seq ?_
            refine Sx.blk ?_
            refine Sx.seq ?_
            refine Sx.reg ?_
            refine Sx.sv (r_mv rfl) rfl (wnt0 rfl) ?_
            refine Sx.sv (r_as rfl) rfl (wnt0 rfl) ?_
            refine wnil ?_
            refine Sx.nT ?_
            refine Sx.seq ?_
            refine Sx.drg 9 (fun w20 wv => Rel (fun x => False) w20 wv) mx (fun w20 hd => ?_)
            replace ht := tape_rel ht hd (fun _ _ h => h)
            replace HX := HX.nw hd
            replace x4 := x4.nw hd
            replace HR := HR.nw hd
            replace HP := HP.nw hd
            replace HS := HS.nw hd
            replace HB := HB.nw hd
            replace m1 := m1.nw hd
            replace m2 := m2.nw hd
            replace E := E.then hd (fun _ _ h => h.elim)
            replace E14 := E14.then hd (fun _ _ h => h.elim)
            replace E19 := E19.then hd (fun _ _ h => h.elim)
            have q_HX := HX.le
            have q_x4 := x4.lt
            have q_HR := HR.le
            have q_HP := HP.le
            have q_HS := HS.le
            have q_HB := HB.le
            have q_m1 := m1.lt
            have q_m2 := m2.lt
            have d_HX := HX
            have d_x4 := x4
            have d_HR := HR
            have d_HP := HP
            have d_HS := HS
            have d_HB := HB
            have d_m1 := m1
            have d_m2 := m2
            have hS : Rel (fun x => False) w20 w20 := Rel.refl _ _
            refine Sx.dt (i := 0) rfl (by kernel_rfl) (by kernel_rfl) (by kernel_rfl) (by kernel_rfl) (fun _ _ _ _ h => h) rfl (wnt0 rfl) (fun wv h2 => r_mv rfl) hS ?_
            refine Sx.dt (i := 1) rfl (by kernel_rfl) (by kernel_rfl) (by kernel_rfl) (by kernel_rfl) (fun _ _ _ _ h => h) rfl (wnt0 rfl) (fun wv h2 => r_mv rfl) hS ?_
            refine Sx.dt (i := 4) rfl (by kernel_rfl) (by kernel_rfl) (by kernel_rfl) (by kernel_rfl) (fun _ _ _ _ h => h) rfl (wnt0 rfl) (fun wv h2 => r_mv rfl) hS ?_
            refine Sx.dt (i := 5) rfl (by kernel_rfl) (by kernel_rfl) (by kernel_rfl) (by kernel_rfl) (fun _ _ _ _ h => h) rfl (wnt0 rfl) (fun wv h2 => r_mv rfl) hS ?_
            refine Sx.dt (i := 2) rfl (by kernel_rfl) (by kernel_rfl) (by kernel_rfl) (by kernel_rfl) (fun _ _ _ _ h => h) rfl (wnt0 rfl) (fun wv h2 => r_ix1i ix22 rfl (by first | rfl | assumption) rfl (by first | rfl | assumption) (by omega)) hS ?_
            refine Sx.dt (i := 6) rfl (by kernel_rfl) (by kernel_rfl) (by kernel_rfl) (by kernel_rfl) (fun _ _ _ _ h => h) rfl (wnt0 rfl) (fun wv h2 => r_ix1i ix22 rfl (by first | rfl | assumption) rfl (by first | rfl | assumption) (by omega)) hS ?_
            refine Sx.dt (i := 3) rfl (by kernel_rfl) (by kernel_rfl) (by kernel_rfl) (by kernel_rfl) (fun _ _ _ _ h => h) rfl (wnt0 rfl) (fun wv h2 => r_ld0 ty3 rfl ((d_m1.rel h2 (show ¬ (False) from id)).seg) rfl) hS ?_
            refine Sx.dt (i := 7) rfl (by kernel_rfl) (by kernel_rfl) (by kernel_rfl) (by kernel_rfl) (fun _ _ _ _ h => h) rfl (wnt0 rfl) (fun wv h2 => r_ld0 ty3 rfl ((d_m2.rel h2 (show ¬ (False) from id)).seg) rfl) hS ?_
            refine Sx.dt (i := 8) rfl (by kernel_rfl) (by kernel_rfl) (by kernel_rfl) (by kernel_rfl) (fun _ _ _ _ h => h) rfl (wnt0 rfl) (fun wv h2 => r_lt rfl rfl) hS ?_
            refine Sx.dz (by kernel_rfl) ?_
            clear hS d_HX d_x4 d_HR d_HP d_HS d_HB d_m1 d_m2
            refine Sx.nT ?_
            have hle : e0 (pwr x c) i ≤ e0 (pw x (inB l)) i := by
              unfold pwr
              rw [pw_at _ _ (by omega), pw_at _ _ (by omega)]
              exact gt_mono (fun y hy => inB_iff.2 (hcl c (inB_iff.1 hi) y (rB_iff.1 hy))) _ _
            refine Sx.cf rfl (decide_eq_false (by omega)) ?_
            refine wp_skip ?_
            refine Sx.nB ?_
            refine Sx.nT ?_
            refine Sx.reg ?_
            refine Sx.sv (r_add rfl rfl (by omega) (by omega)) rfl (wnt0 rfl) ?_
            refine Sx.sv (r_mv rfl) rfl (wnt0 rfl) ?_
            refine wnil ?_
            refine Sx.nT ?_
            exact Sx.lpe (i + 1) ⟨rfl, rfl, rfl, rfl, rfl, rfl, rfl, rfl, rfl, rfl, trivial⟩ ⟨E19, hlt⟩ (show _ - (i + 1) < _ - i by omega)
          · refine Sx.cf rfl (decide_eq_false (by omega)) ?_
            refine wp_exit ?_
            refine Sx.eT ?_
            refine Sx.eT ?_
            refine Sx.eB ?_
            refine Sx.nT ?_
            refine Sx.seq ?_
            refine Sx.reg ?_
            refine Sx.sv (r_mv rfl) rfl (wnt0 rfl) ?_
            refine Sx.sv (r_ln Try.underlying22 rfl) rfl (wnt0 rfl) ?_
            refine Sx.sv (r_mv rfl) rfl (wnt0 rfl) ?_
            refine wnil ?_
            refine Sx.nT ?_
            refine Sx.blk ?_
            have t21_HX := HX.le
            have t21_x4 := x4.lt
            have t21_HR := HR.le
            have t21_HP := HP.le
            have t21_HS := HS.le
            have t21_HB := HB.le
            refine Sx.lp (Nat) (fun i => [(101, .int .i64 (i : Int)), (99, .slice Ar (rl x c).length cr), (100, .int .i64 ((rl x c).length : Int)), (3, .pointer (some ⟨b2, 0, none⟩)), (4, .pointer (some ⟨b4, 0, none⟩)), (5, .int .i64 c), (6, .slice Ar (rl x c).length cr), (7, .slice Ap (pwr x c).length cp), (8, .int .i64 (k : Int)), (9, .slice Al l.length cl)]) (fun i wr => Rel (fun x => w19.heap.size ≤ x) w19 wr ∧ i ≤ (rl x c).length) (fun i => (rl x c).length - i) 0 ⟨rfl, rfl, rfl, rfl, rfl, rfl, rfl, rfl, rfl, rfl, trivial⟩ ⟨Rel.refl _ _, Nat.zero_le _⟩ ?_
            rintro i fr w21 ⟨E21, hi3⟩
            show Code.wp _ _ _ (Fa fr [(101, .int .i64 (i : Int)), (99, .slice Ar (rl x c).length cr), (100, .int .i64 ((rl x c).length : Int)), (3, .pointer (some ⟨b2, 0, none⟩)), (4, .pointer (some ⟨b4, 0, none⟩)), (5, .int .i64 c), (6, .slice Ar (rl x c).length cr), (7, .slice Ap (pwr x c).length cp), (8, .int .i64 (k : Int)), (9, .slice Al l.length cl)]) _
            replace ht := tape_rel ht E21 (fun x hx => show ¬ (w19.heap.size ≤ x) by omega)
            replace HX := HX.rel E21 (fun x h1 h2 => show ¬ (w19.heap.size ≤ x) by omega)
            replace x4 := x4.rel E21 (show ¬ (w19.heap.size ≤ b4) by omega)
            replace HR := HR.rel E21 (fun x h1 h2 => show ¬ (w19.heap.size ≤ x) by omega)
            replace HP := HP.rel E21 (fun x h1 h2 => show ¬ (w19.heap.size ≤ x) by omega)
            replace HS := HS.rel E21 (fun x h1 h2 => show ¬ (w19.heap.size ≤ x) by omega)
            replace HB := HB.rel E21 (fun x h1 h2 => show ¬ (w19.heap.size ≤ x) by omega)
            have s21_E := E.size
            replace E := E.then E21 (fun x hx (e : w19.heap.size ≤ x) => show w.heap.size ≤ x by omega)
            have s21_E14 := E14.size
            replace E14 := E14.then E21 (fun x hx (e : w19.heap.size ≤ x) => show x = b2 ∨ w13.heap.size ≤ x by omega)
            refine Sx.seq ?_
            refine Sx.reg ?_
            refine Sx.sv (r_lt rfl rfl) rfl (wnt0 rfl) ?_
            refine wnil ?_
            refine Sx.nT ?_
            refine Sx.seq ?_
            by_cases hlt : i < (rl x c).length
            · refine Sx.ct rfl (decide_eq_true (by omega)) ?_
              obtain ⟨ba, oa, hA1, -, hba, hca⟩ := HR.ok.z hlt
              have m1 : Me _ ba (oa + i) [_] := .one hba hca
              refine wp_skip ?_
              refine Sx.nT ?_
              refine Sx.seq ?_
              refine Sx.blk ?_
              refine Sx.seq ?_
              refine Sx.reg ?_
              refine Sx.sv (r_ix1i ix22 rfl (by first | rfl | assumption) rfl (by first | rfl | assumption) (by omega)) rfl (wnt0 rfl) ?_
              refine Sx.sv (r_ld0 ty3 rfl (m1.seg) rfl) rfl (wnt0 rfl) ?_
              refine Sx.sv (r_as rfl) rfl (wnt0 rfl) ?_
              refine wnil ?_
              refine Sx.nT ?_
              refine Sx.seq ?_
              refine Sx.reg ?_
              refine Sx.sv (r_mv rfl) rfl (wnt0 rfl) ?_
              refine Sx.sv (r_mv rfl) rfl (wnt0 rfl) ?_
              have tq22_ht := tape_lt ht
              refine Sx.sc (r_call en12 rfl) rfl (wnt0 rfl) (has_any l (e0 (rl x c) i) Al cl _ (HS.ok.base (Nat.zero_le _)) (by omega)) ?_
              rintro e w22 ⟨rfl, rfl⟩
              refine ⟨_, rfl, ?_⟩
              refine Sx.sv (r_not rfl) rfl (wnt0 rfl) ?_
              refine wnil ?_
              refine Sx.nT ?_
              refine Sx.cf rfl (congrArg (fun z => !z) (inB_iff.2 (hcl c (inB_iff.1 hi) _ ((hmem _).1 (e0_mem hlt))))) ?_
              refine wp_skip ?_
              refine Sx.nB ?_
              refine Sx.nT ?_
              refine Sx.reg ?_
              refine Sx.sv (r_add rfl rfl (by omega) (by omega)) rfl (wnt0 rfl) ?_
              refine Sx.sv (r_mv rfl) rfl (wnt0 rfl) ?_
              refine wnil ?_
              refine Sx.nT ?_
              exact Sx.lpe (i + 1) ⟨rfl, rfl, rfl, rfl, rfl, rfl, rfl, rfl, rfl, rfl, trivial⟩ ⟨E21, hlt⟩ (show _ - (i + 1) < _ - i by omega)
            · refine Sx.cf rfl (decide_eq_false (by omega)) ?_
              refine wp_exit ?_
              refine Sx.eT ?_
              refine Sx.eT ?_
              refine Sx.eB ?_
              refine Sx.nB ?_
              refine Sx.nT ?_
              refine Sx.reg ?_
              refine Sx.sv (r_mv rfl) rfl (wnt0 rfl) ?_
              refine Sx.sv (r_add rfl rfl (by omega) (by omega)) rfl (wnt0 rfl) ?_
              refine Sx.sv (r_as rfl) rfl (wnt0 rfl) ?_
              refine wnil ?_
              refine Sx.nT ?_
              exact Sx.lpe (k + 1) ⟨rfl, rfl, rfl, rfl, rfl, rfl, trivial⟩ ⟨E14, ht, by omega⟩ (show 6 - (k + 1) < 6 - k by omega)
        · refine Sx.sv (r_not rfl) rfl (wnt1 (dj := 70) (b0 := false) rfl rfl rfl rfl (congrArg (fun z => !z) (hi)) rfl) ?_
          refine Sx.sv (r_pkF rfl (congrArg (fun z => !z) (hi)) rfl) rfl (wnt0 rfl) ?_
          refine wnil ?_
          refine Sx.nT ?_
          refine Sx.ct rfl (congrArg (fun z => !z) (cloB_no hcl)) ?_
          refine wp_exit ?_
          refine Sx.eT ?_
          refine Sx.eB ?_
          refine Sx.nT ?_
          refine Sx.reg ?_
          refine Sx.sv (r_mv rfl) rfl (wnt0 rfl) ?_
          refine Sx.sv (r_add rfl rfl (by omega) (by omega)) rfl (wnt0 rfl) ?_
          refine Sx.sv (r_as rfl) rfl (wnt0 rfl) ?_
          refine wnil ?_
          refine Sx.nT ?_
          exact Sx.lpe (k + 1) ⟨rfl, rfl, rfl, rfl, rfl, rfl, trivial⟩ ⟨E14, ht, by omega⟩ (show 6 - (k + 1) < 6 - k by omega)
      · refine Sx.sv (r_not rfl) rfl (wnt0 rfl) ?_
        refine Sx.sv (r_mv rfl) rfl (wnt0 rfl) ?_
        refine Sx.sg (wntF (dj := 70) (b0 := true) rfl rfl rfl rfl (congrArg (fun z => !z) (Bool.eq_false_iff.2 hi)) rfl) rfl ?_
        refine Sx.sg (wntF (dj := 70) (b0 := true) rfl rfl rfl rfl (congrArg (fun z => !z) (Bool.eq_false_iff.2 hi)) rfl) rfl ?_
        refine Sx.sg (wntF (dj := 70) (b0 := true) rfl rfl rfl rfl (congrArg (fun z => !z) (Bool.eq_false_iff.2 hi)) rfl) rfl ?_
        refine Sx.sg (wntF (dj := 70) (b0 := true) rfl rfl rfl rfl (congrArg (fun z => !z) (Bool.eq_false_iff.2 hi)) rfl) rfl ?_
        refine Sx.sv (r_pkT rfl (congrArg (fun z => !z) (Bool.eq_false_iff.2 hi)) rfl) rfl (wnt0 rfl) ?_
        refine wnil ?_
        refine Sx.nT ?_
        refine Sx.ct rfl (rfl) ?_
        refine wp_exit ?_
        refine Sx.eT ?_
        refine Sx.eB ?_
        refine Sx.nT ?_
        refine Sx.reg ?_
        refine Sx.sv (r_mv rfl) rfl (wnt0 rfl) ?_
        refine Sx.sv (r_add rfl rfl (by omega) (by omega)) rfl (wnt0 rfl) ?_
        refine Sx.sv (r_as rfl) rfl (wnt0 rfl) ?_
        refine wnil ?_
        refine Sx.nT ?_
        exact Sx.lpe (k + 1) ⟨rfl, rfl, rfl, rfl, rfl, rfl, trivial⟩ ⟨E14, ht, by omega⟩ (show 6 - (k + 1) < 6 - k by omega)
    · refine Sx.cf rfl (decide_eq_false (by omega)) ?_
      refine wp_exit ?_
      refine Sx.eT ?_
      refine Sx.eT ?_
      refine Sx.eB ?_
      refine Sx.nT ?_
      refine Sx.seq ?_
      refine Sx.reg ?_
      have tq23_ht := tape_lt ht
      refine Sx.sc (r_call en7 rfl) rfl (wnt0 rfl) (awake_any _) ?_
      rintro e w23 ⟨rfl, hb23⟩
      refine ⟨_, rfl, ?_⟩
      have r23 := Rel.of0 hb23
      replace ht := tape_rel ht r23 (fun _ _ h => h)
      replace HX := HX.nw r23
      replace x4 := x4.nw r23
      replace HR := HR.nw r23
      replace HP := HP.nw r23
      replace E := E.then r23 (fun _ _ h => h.elim)
      refine Sx.sv (r_as rfl) rfl (wnt0 rfl) ?_
      refine wnil ?_
      refine Sx.nT ?_
      refine wp_ret ?_
      exact Sx.ret1 Try.results3 rfl ⟨rfl, E.toB0⟩

/-! ### THE ROW's STEP: WRITTEN OUT: LEAVE IT -/
set_option maxRecDepth 100000 in
theorem lifted (os : Os) (started : os.Started) (H : Type) (enc : TypeId × Value → H) :
    ReturnsInHanded {} Try.checked os 3 .any (Rows.rightsClosureSpec.pre6 enc Try.prog Try.f3 Rows.rightsClosureRow.domain false) (Rows.rightsClosureSpec.post enc Try.prog Try.f3 false true false false) := by
  refine returnsInHanded_of_change (C := Try.checked) own started (by kernel_rfl) Try.func3
    (ChangeSpec.witness6 (enc := enc) (C := Try.checked) false ⟨#[], #[.slice none 0 0], []⟩ 8 (by kernel_rfl) (by kernel_rfl) (by kernel_rfl) (by kernel_rfl)) ?_
  intro W base args ds gs before hval0 hW hcnd _
  have hval : ∀ (j : Nat) t v, Try.f3.params[j]? = some t → args[j]? = some v → Value.okWide Try.prog W .any base t v := hval0
  have hW' := hW
  obtain ⟨p, q, hA0, hV, rfl, hfz, hnd⟩ := hW
  have hA : DataW.TrodAll enc Try.prog W 0 (fun _ => true) true Try.f3.params.toList args.toList ds p := hA0
  rw [Try.params3] at hA hval
  obtain ⟨v0, vs0, d0, ds0, p0, q0, hargs, rfl, rfl, h0, r0⟩ := trodAll_cons hA
  obtain ⟨rfl, rfl, rfl⟩ := trodAll_nil r0
  obtain rfl : args = #[v0] := by cases args; simp_all
  obtain ⟨rfl, rfl⟩ := trodVars_none hV
  obtain ⟨a0, len0, cap0, rfl⟩ := okWide_slice Try.underlying22 (hval 0 22 v0 rfl rfl)
  have k0 := h0
  have lt0 : ∀ x ∈ p0, x.block < W.heap.size := by obtain ⟨m, hm⟩ := k0; exact DataW.trod_lt m _ _ _ hm
  obtain ⟨z0, w0⟩ : ∃ zs, IsRow .i64 W a0 len0 cap0 zs := by
    obtain ⟨fuel, hf⟩ := h0
    rcases open_ints Try.underlying22 Try.underlying3 (by kernel_rfl) hf with ⟨hcs, _⟩ | ⟨x, l, c, zs, hcs, _, hl, hm, hz, _, hcell, hwz⟩
    · simp [Value.cells] at hcs
      obtain ⟨rfl, rfl, rfl⟩ := hcs
      exact ⟨[], .inl ⟨rfl, rfl, rfl, rfl⟩⟩
    · simp [Value.cells] at hcs
      obtain ⟨rfl, rfl, rfl⟩ := hcs
      exact ⟨zs, .inr ⟨_, rfl, hl, hm, by simpa using hz, hcell, hwz⟩⟩
  clear hA0 hval0
  refine (walk a0 len0 cap0 z0 W w0).mono fun e W' ⟨he, bel⟩ => ?_
  subst he
  exact ⟨_, rfl, _, _, _, [], _, [], hW', trodAll_mk1 (shut_bool Try.underlying4 _), (trodAll_cons_mk (Below.trod laidOut (by kernel_rfl) (of_decide_eq_true (by kernel_rfl)) k0 bel lt0) trodAll_mk0), rfl, bel.frame _, fun h => by cases h⟩

theorem over : Rows.rightsClosureRow.holds Try.pinned (OpenSpec.ofChange Rows.rightsClosureSpec) :=
  OpenClaim.holds_of_wide 3 Try.f3 rfl rfl rfl rfl rfl rfl rfl ⟨rfl, rfl, rfl, rfl, rfl⟩ rfl rfl rfl rfl rfl (by kernel_rfl) Try.func3 (by kernel_rfl)
    (of_decide_eq_true (by kernel_rfl)) (by unfold Func.isWrapper; first | (rw [if_pos (by decide +kernel)]; kernel_rfl) | (rw [if_neg (by decide +kernel)]; exact ⟨rfl, rfl⟩))
    (fun os started H enc _ => lifted os started H enc)

/-- ████ THE STATEMENT ████ -/
theorem proved : Rows.RightsClosureSaid := over
#print axioms proved
end Go.Proofs.Ytahggnlmabdbbaa.rightsClosure
