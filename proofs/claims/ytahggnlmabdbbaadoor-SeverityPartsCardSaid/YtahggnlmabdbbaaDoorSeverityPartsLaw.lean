/-
  The Go function leakresponse/leakresponselaw31.SeverityParts returns true for every input, and leaves what was there as it was; the bounds of the levels lie as the program's text lays them. A score is the product of its parts, its level is that of the score, and a credential that another one reaches is worth no more than it.
-/
import Derived.Test.YtahggnlmabdbbaaDoorSvH
import Derived.Test.YtahggnlmabdbbaaDoorSvE
import Derived.Test.YtahggnlmabdbbaaDoorRows
import Derived.Test.YtahggnlmabdbbaaDoorCards
import Derived.Test.YtahggnlmabdbbaaDoorTie
import Derived.SevenTiedAt
namespace Go.Proofs.YtahggnlmabdbbaaDoor.severityParts
open Go.ChangeShapes Go.WideShapes Go.ChangeAt Go.RowKit Go.Shelf Go.Maps
open Go.ChangeMaps (open_string shut_string)
open Go.Proofs.YtahggnlmabdbbaaDoor.Tp
open Go.Proofs.YtahggnlmabdbbaaDoor.Di
open Go.Proofs.YtahggnlmabdbbaaDoor.Sx
set_option linter.unusedVariables false

set_option maxRecDepth 100000 in
set_option maxHeartbeats 16000000 in
theorem walk (a0 : Option Addr) (len0 cap0 : Nat) (z0 : List Int) (w : World) (w0 : IsRow .i64 w a0 len0 cap0 z0) (hT : Me w 0 0 TB) :
    Calls Tryd.prog 5 #[.slice a0 len0 cap0] w fun e w' => e = .returned (.bool true) ∧ Below w.heap.size w w' := by
  have hm0 := w0.at_.1
  unfold maxLen at hm0
  have E : Rel (fun x => w.heap.size ≤ x) w w := Rel.refl _ _
  refine Sx.enter Tryd.func5 rfl Tryd.ntmps5 rfl (fun fr => ?_)
  refine Sx.seq ?_
  refine Sx.reg ?_
  refine Sx.sv (r_as rfl) rfl (wnt0 rfl) ?_
  refine wnil ?_
  refine Sx.nT ?_
  refine Sx.seq ?_
  refine Sx.seq ?_
  refine Sx.reg ?_
  refine Sx.sv (r_mv rfl) rfl (wnt0 rfl) ?_
  refine Sx.sv (r_ln Tryd.underlying22 rfl) rfl (wnt0 rfl) ?_
  refine Sx.sv (r_gt rfl rfl) rfl (wnt0 rfl) ?_
  refine wnil ?_
  refine Sx.nT ?_
  by_cases hlen : 300 < len0
  · refine Sx.ct rfl (decide_eq_true (by omega)) ?_
    refine Sx.seq ?_
    refine Sx.reg ?_
    refine Sx.sc (r_call en8 rfl) rfl (wnt0 rfl) (awake_any _ hT) ?_
    rintro e w1 ⟨rfl, hb1⟩
    refine ⟨_, rfl, ?_⟩
    have r1 := Rel.of0 hb1
    replace hT := hT.nw r1
    replace E := E.then r1 (fun _ _ h => h.elim)
    refine Sx.sv (r_as rfl) rfl (wnt0 rfl) ?_
    refine wnil ?_
    refine Sx.nT ?_
    refine wp_ret ?_
    refine Sx.rT ?_
    exact Sx.ret1 Tryd.results5 rfl ⟨rfl, E.toB0⟩
  · skip
    refine Sx.cf rfl (decide_eq_false (by omega)) ?_
    refine wp_skip ?_
    refine Sx.nT ?_
    refine Sx.seq ?_
    refine Sx.reg ?_
    refine Sx.sv (r_mv rfl) rfl (wnt0 rfl) ?_
    refine Sx.sv (r_bld rfl (bd32_0 _ _ _)) rfl (wnt0 rfl) ?_
    refine Sx.sy (y_box rfl rfl) rfl (wnt0 rfl) ?_
    rintro _ w2 ⟨b2, rfl, n2, x2⟩
    have l2_hT : 0 < b2 := Nat.lt_of_lt_of_le hT.lt n2.ge
    have g2 : w.heap.size ≤ b2 := Nat.le_trans E.size n2.ge
    replace hT := hT.nw n2.r
    replace E := E.then n2.r (fun _ _ h => h.elim)
    refine Sx.sv (r_as rfl) rfl (wnt0 rfl) ?_
    refine wnil ?_
    refine Sx.nT ?_
    refine Sx.seq ?_
    refine Sx.reg ?_
    refine Sx.sv (r_mv rfl) rfl (wnt0 rfl) ?_
    have ht := tape_of w0 n2 x2
    have lT := x2.lt
    have tq3_ht := tape_lt ht
    refine Sx.sc (r_call en9 rfl) rfl (wnt0 rfl) (rights_any b2 _ ht lT) ?_
    rintro e w3 ⟨x, v, rfl, hmk, hrl, hg3, ht3⟩
    refine ⟨_, rfl, ?_⟩
    have r3 := Rel.ofT hg3
    replace hT := hT.ch r3 (by omega)
    replace E := E.then r3 (fun x hx (e : x = b2) => show w.heap.size ≤ x by omega)
    replace ht := ht3
    have HX := Has.rl hrl
    have hW1 := r3.size
    have hok := hmk.ok
    have hc1 := hmk.c1
    have hc6 := hmk.c6
    have hk1 := hmk.k1
    have hk5 := hmk.k5
    have hg7 := hmk.g7
    have hs4 := hmk.s4
    have hm3 := hmk.m3
    have hsz : szs x := ⟨by omega, by omega, by omega⟩
    obtain ⟨kn, hkn⟩ : ∃ kn : Nat, x.k = (kn : Int) := ⟨x.k.toNat, by omega⟩
    obtain ⟨n, hn⟩ : ∃ n : Nat, x.c = (n : Int) := ⟨x.c.toNat, by omega⟩
    refine Sx.sy (y_all zi27 rfl) rfl (wnt0 rfl) ?_
    rintro _ w4 ⟨b4, rfl, n4, x4⟩
    have l4_hT : 0 < b4 := Nat.lt_of_lt_of_le hT.lt n4.ge
    have l4_ht : b2 < b4 := Nat.lt_of_lt_of_le (tape_lt ht) n4.ge
    have l4_HX : w3.heap.size ≤ b4 := Nat.le_trans HX.le n4.ge
    have g4 : w.heap.size ≤ b4 := Nat.le_trans E.size n4.ge
    replace hT := hT.nw n4.r
    replace ht := tape_rel ht n4.r (fun _ _ h => h)
    replace HX := HX.nw n4.r
    replace E := E.then n4.r (fun _ _ h => h.elim)
    refine Sx.syu (u_stR ty27 rfl rfl rfl x4 rfl rfl) rfl (wnt0 rfl) ?_
    rintro w5 ⟨r5, z5, x5n⟩
    replace hT := hT.ch r5 (by omega)
    replace ht := tape_rel ht r5 (fun b hb (e : b = b4) => by omega)
    replace HX := HX.ch r5 (by omega)
    replace E := E.then r5 (fun x hx (e : x = b4) => show w.heap.size ≤ x by omega)
    replace x4 := x5n; clear x5n
    refine wnil ?_
    refine Sx.nT ?_
    refine Sx.seq ?_
    refine Sx.reg ?_
    refine Sx.sv (r_mv rfl) rfl (wnt0 rfl) ?_
    refine Sx.sv (r_fa fo27_1 rfl) rfl (wnt0 rfl) ?_
    refine Sx.sv (r_ld ty3 rfl (x4.seg) rfl) rfl (wnt0 rfl) ?_
    have tq6_ht := tape_lt ht
    refine Sx.sc (r_call en10 rfl) rfl (wnt0 rfl) ((by rw [hkn]; exact worths_any b2 kn _ ht (tape_lt ht) (by omega))) ?_
    rintro e w6 ⟨ws, Aw, cw, rfl, hwl, hwb, hwo, hg6, ht6⟩
    refine ⟨_, rfl, ?_⟩
    have r6 := Rel.ofT hg6
    replace hT := hT.ch r6 (by omega)
    replace HX := HX.ch r6 (by omega)
    replace x4 := x4.ch r6 (by omega)
    replace E := E.then r6 (fun x hx (e : x = b2) => show w.heap.size ≤ x by omega)
    replace ht := ht6
    have HW := Has.row (row_of_own hwo)
    have hwn : (ws.length : Int) = x.k := by omega
    have hws : ∀ j, j < ws.length → 0 ≤ e0 ws j ∧ e0 ws j ≤ 100 := fun j hj => hwb _ (e0_mem hj)
    refine Sx.sv (r_as rfl) rfl (wnt0 rfl) ?_
    refine wnil ?_
    refine Sx.nT ?_
    refine Sx.seq ?_
    refine Sx.seq ?_
    refine Sx.reg ?_
    refine Sx.sv (r_as rfl) rfl (wnt0 rfl) ?_
    refine wnil ?_
    refine Sx.nT ?_
    refine Sx.blk ?_
    have t7_hT := hT.lt
    have t7_HX := HX.le
    have t7_x4 := x4.lt
    have t7_HW := HW.le
    refine Sx.lp (Nat) (fun c => [(6, .int .i64 (c : Int)), (3, .pointer (some ⟨b2, 0, none⟩)), (4, .pointer (some ⟨b4, 0, none⟩)), (5, .slice Aw ws.length cw)]) (fun c wr => Rel (fun x => x = b2 ∨ w6.heap.size ≤ x) w6 wr ∧ TapeOk wr b2 ∧ c ≤ n) (fun c => n - c) 0 ⟨rfl, rfl, rfl, rfl, trivial⟩ ⟨Rel.refl _ _, ht, Nat.zero_le _⟩ ?_
    rintro c fr w7 ⟨E7, htn, hcn⟩
    show Code.wp _ _ _ (Fa fr [(6, .int .i64 (c : Int)), (3, .pointer (some ⟨b2, 0, none⟩)), (4, .pointer (some ⟨b4, 0, none⟩)), (5, .slice Aw ws.length cw)]) _
    replace hT := hT.rel E7 (show ¬ (0 = b2 ∨ w6.heap.size ≤ 0) by omega)
    replace ht := htn; clear htn
    replace HX := HX.rel E7 (fun x h1 h2 => show ¬ (x = b2 ∨ w6.heap.size ≤ x) by omega)
    replace x4 := x4.rel E7 (show ¬ (b4 = b2 ∨ w6.heap.size ≤ b4) by omega)
    replace HW := HW.rel E7 (fun x h1 h2 => show ¬ (x = b2 ∨ w6.heap.size ≤ x) by omega)
    have s7_E := E.size
    replace E := E.then E7 (fun x hx (e : x = b2 ∨ w6.heap.size ≤ x) => show w.heap.size ≤ x by omega)
    refine Sx.seq ?_
    refine Sx.seq ?_
    refine Sx.reg ?_
    refine Sx.sv (r_mv rfl) rfl (wnt0 rfl) ?_
    refine Sx.sv (r_fa fo27_0 rfl) rfl (wnt0 rfl) ?_
    refine Sx.sv (r_ld ty3 rfl (x4.seg) rfl) rfl (wnt0 rfl) ?_
    refine Sx.sv (r_lt rfl rfl) rfl (wnt0 rfl) ?_
    refine wnil ?_
    refine Sx.nT ?_
    by_cases hlt : c < n
    · refine Sx.ct rfl (decide_eq_true (by omega)) ?_
      refine wp_skip ?_
      refine Sx.nT ?_
      refine Sx.seq ?_
      refine Sx.blk ?_
      refine Sx.seq ?_
      refine Sx.reg ?_
      refine Sx.sv (r_mv rfl) rfl (wnt0 rfl) ?_
      have hc : 0 ≤ (c : Int) ∧ (c : Int) < x.c := ⟨by omega, by omega⟩
      have tq8_ht := tape_lt ht
      refine Sx.sc (r_call en11 rfl) rfl (wnt0 rfl) (next_any b2 25 _ ht (by omega) (by omega)) ?_
      rintro e w8 ⟨z8, p8, q8, rfl, hg8, ht8⟩
      refine ⟨_, rfl, ?_⟩
      have r8 := Rel.ofT hg8
      replace hT := hT.ch r8 (by omega)
      replace HX := HX.ch r8 (by omega)
      replace x4 := x4.ch r8 (by omega)
      replace HW := HW.ch r8 (by omega)
      replace E := E.then r8 (fun x hx (e : x = b2) => show w.heap.size ≤ x by omega)
      replace E7 := E7.then r8 (fun x hx (e : x = b2) => show x = b2 ∨ w6.heap.size ≤ x by omega)
      replace ht := ht8
      refine Sx.sv (r_mv rfl) rfl (wnt0 rfl) ?_
      have tq9_ht := tape_lt ht
      refine Sx.sc (r_call en11 rfl) rfl (wnt0 rfl) (next_any b2 2 _ ht (by omega) (by omega)) ?_
      rintro e w9 ⟨z9, p9, q9, rfl, hg9, ht9⟩
      refine ⟨_, rfl, ?_⟩
      have r9 := Rel.ofT hg9
      replace hT := hT.ch r9 (by omega)
      replace HX := HX.ch r9 (by omega)
      replace x4 := x4.ch r9 (by omega)
      replace HW := HW.ch r9 (by omega)
      replace E := E.then r9 (fun x hx (e : x = b2) => show w.heap.size ≤ x by omega)
      replace E7 := E7.then r9 (fun x hx (e : x = b2) => show x = b2 ∨ w6.heap.size ≤ x by omega)
      replace ht := ht9
      refine Sx.sv (r_eq rfl rfl) rfl (wnt0 rfl) ?_
      refine Sx.sv (r_as rfl) rfl (wnt0 rfl) ?_
      refine Sx.sv (r_as rfl) rfl (wnt0 rfl) ?_
      refine wnil ?_
      refine Sx.nT ?_
      refine Sx.seq ?_
      refine Sx.reg ?_
      refine Sx.sv (r_ldr ty27 rfl (x4.seg) rfl) rfl (wnt0 rfl) ?_
      refine Sx.sv (r_mv rfl) rfl (wnt0 rfl) ?_
      refine Sx.sv (r_mv rfl) rfl (wnt0 rfl) ?_
      refine Sx.sv (r_mv rfl) rfl (wnt0 rfl) ?_
      refine Sx.sv (r_mv rfl) rfl (wnt0 rfl) ?_
      obtain ⟨wo, hwo2⟩ : ∃ wo, smW (pwr x c) ws ws.length = wo := ⟨_, rfl⟩
      have hpb : ∀ i, i < ws.length → 0 ≤ e0 (pwr x c) i ∧ e0 (pwr x c) i ≤ 3 := fun i hi => pwr_b hok c (by omega)
      have hwb2 := smW_b hpb hws ws.length (Nat.le_refl _)
      rw [hwo2] at hwb2
      generalize decide (z9 = 1) = pb at *
      cases pb
      · have tq10_ht := tape_lt ht
        refine Sx.sc (r_call en18 rfl) rfl (wnt0 rfl) (rate_yes2 x v ws Aw cw (c : Int) z8 false ws.length wo (1 + z8) _ (HX.ok.base (Nat.zero_le _)) rfl (HW.ok.base (Nat.zero_le _)) hok hc hwn hws ⟨by omega, by omega⟩ hT hwo2 rfl) ?_
        rintro e w10 ⟨rfl, hb10⟩
        refine ⟨_, rfl, ?_⟩
        have r10 := Rel.of0 hb10
        replace hT := hT.nw r10
        replace ht := tape_rel ht r10 (fun _ _ h => h)
        replace HX := HX.nw r10
        replace x4 := x4.nw r10
        replace HW := HW.nw r10
        replace E := E.then r10 (fun _ _ h => h.elim)
        replace E7 := E7.then r10 (fun _ _ h => h.elim)
        have hmb := mul_b (A := 7200) (B := 100) (a := wo) (b := 1 + z8) (by omega) (by omega) (by omega) (by omega)
        refine Sx.sv (r_mv rfl) rfl (wnt0 rfl) ?_
        refine Sx.sv (r_ex rfl rfl) rfl (wnt0 rfl) ?_
        refine Sx.sv (r_ex rfl rfl) rfl (wnt0 rfl) ?_
        refine Sx.sy (y_all zi47 rfl) rfl (wnt0 rfl) ?_
        rintro _ w11 ⟨b11, rfl, n11, x11⟩
        have l11_hT : 0 < b11 := Nat.lt_of_lt_of_le hT.lt n11.ge
        have l11_ht : b2 < b11 := Nat.lt_of_lt_of_le (tape_lt ht) n11.ge
        have l11_HX : w3.heap.size ≤ b11 := Nat.le_trans HX.le n11.ge
        have l11_x4 : b4 < b11 := Nat.lt_of_lt_of_le x4.lt n11.ge
        have l11_HW : w6.heap.size ≤ b11 := Nat.le_trans HW.le n11.ge
        have g11 : w.heap.size ≤ b11 := Nat.le_trans E.size n11.ge
        have g11_E7 : w6.heap.size ≤ b11 := Nat.le_trans E7.size n11.ge
        replace hT := hT.nw n11.r
        replace ht := tape_rel ht n11.r (fun _ _ h => h)
        replace HX := HX.nw n11.r
        replace x4 := x4.nw n11.r
        replace HW := HW.nw n11.r
        replace E := E.then n11.r (fun _ _ h => h.elim)
        replace E7 := E7.then n11.r (fun _ _ h => h.elim)
        refine Sx.syu (u_stR ty47 rfl rfl rfl x11 rfl rfl) rfl (wnt0 rfl) ?_
        rintro w12 ⟨r12, z12, x12n⟩
        replace hT := hT.ch r12 (by omega)
        replace ht := tape_rel ht r12 (fun b hb (e : b = b11) => by omega)
        replace HX := HX.ch r12 (by omega)
        replace x4 := x4.ch r12 (by omega)
        replace HW := HW.ch r12 (by omega)
        replace E := E.then r12 (fun x hx (e : x = b11) => show w.heap.size ≤ x by omega)
        replace E7 := E7.then r12 (fun x hx (e : x = b11) => show x = b2 ∨ w6.heap.size ≤ x by omega)
        replace x11 := x12n; clear x12n
        refine Sx.sv (r_as rfl) rfl (wnt0 rfl) ?_
        refine wnil ?_
        refine Sx.nT ?_
        refine Sx.seq ?_
        refine Sx.seq ?_
        refine Sx.drg 38 (fun w13 wv => Rel (fun x => False) w13 wv) mx (fun w13 hd => ?_)
        replace hT := hT.nw hd
        replace ht := tape_rel ht hd (fun _ _ h => h)
        replace HX := HX.nw hd
        replace x4 := x4.nw hd
        replace HW := HW.nw hd
        replace x11 := x11.nw hd
        replace E := E.then hd (fun _ _ h => h.elim)
        replace E7 := E7.then hd (fun _ _ h => h.elim)
        have sd13_E := E.size
        have sd13_E7 := E7.size
        have q_hT := hT.lt
        have q_HX := HX.le
        have q_x4 := x4.lt
        have q_HW := HW.le
        have q_x11 := x11.lt
        have d_hT := hT
        have d_HX := HX
        have d_x4 := x4
        have d_HW := HW
        have d_x11 := x11
        have hS : Rel (fun x => False) w13 w13 := Rel.refl _ _
        refine Sx.dt (i := 0) rfl (by kernel_rfl) (by kernel_rfl) (by kernel_rfl) (by kernel_rfl) (fun _ _ _ _ h => h) rfl (wnt0 rfl) (fun wv h2 => r_mv rfl) hS ?_
        refine Sx.dt (i := 1) rfl (by kernel_rfl) (by kernel_rfl) (by kernel_rfl) (by kernel_rfl) (fun _ _ _ _ h => h) rfl (wnt0 rfl) (fun wv h2 => r_ne rfl rfl) hS ?_
        refine Sx.dt (i := 2) rfl (by kernel_rfl) (by kernel_rfl) (by kernel_rfl) (by kernel_rfl) (fun _ _ _ _ h => h) rfl (wnt0 rfl) (fun wv h2 => r_mv rfl) hS ?_
        refine Sx.dt (i := 3) rfl (by kernel_rfl) (by kernel_rfl) (by kernel_rfl) (by kernel_rfl) (fun _ _ _ _ h => h) rfl (wnt1 (dj := 50) (b0 := false) rfl rfl rfl rfl (decide_eq_false (by decide)) rfl) (fun wv h2 => r_fa fo47_3 rfl) hS ?_
        refine Sx.dt (i := 5) rfl (by kernel_rfl) (by kernel_rfl) (by kernel_rfl) (by kernel_rfl) (fun _ _ _ _ h => h) rfl (wnt1 (dj := 50) (b0 := false) rfl rfl rfl rfl (decide_eq_false (by decide)) rfl) (fun wv h2 => r_fa fo47_1 rfl) hS ?_
        refine Sx.dt (i := 7) rfl (by kernel_rfl) (by kernel_rfl) (by kernel_rfl) (by kernel_rfl) (fun _ _ _ _ h => h) rfl (wnt1 (dj := 50) (b0 := false) rfl rfl rfl rfl (decide_eq_false (by decide)) rfl) (fun wv h2 => r_fa fo47_2 rfl) hS ?_
        refine Sx.dt (i := 4) rfl (by kernel_rfl) (by kernel_rfl) (by kernel_rfl) (by kernel_rfl) (fun _ _ _ _ h => h) rfl (wnt1 (dj := 50) (b0 := false) rfl rfl rfl rfl (decide_eq_false (by decide)) rfl) (fun wv h2 => r_ld ty3 rfl ((d_x11.rel h2 (show ¬ (False) from id)).seg) rfl) hS ?_
        refine Sx.dt (i := 6) rfl (by kernel_rfl) (by kernel_rfl) (by kernel_rfl) (by kernel_rfl) (fun _ _ _ _ h => h) rfl (wnt1 (dj := 50) (b0 := false) rfl rfl rfl rfl (decide_eq_false (by decide)) rfl) (fun wv h2 => r_ld ty3 rfl ((d_x11.rel h2 (show ¬ (False) from id)).seg) rfl) hS ?_
        refine Sx.dt (i := 8) rfl (by kernel_rfl) (by kernel_rfl) (by kernel_rfl) (by kernel_rfl) (fun _ _ _ _ h => h) rfl (wnt1 (dj := 50) (b0 := false) rfl rfl rfl rfl (decide_eq_false (by decide)) rfl) (fun wv h2 => r_ld ty3 rfl ((d_x11.rel h2 (show ¬ (False) from id)).seg) rfl) hS ?_
        refine Sx.dt (i := 9) rfl (by kernel_rfl) (by kernel_rfl) (by kernel_rfl) (by kernel_rfl) (fun _ _ _ _ h => h) rfl (wnt1 (dj := 50) (b0 := false) rfl rfl rfl rfl (decide_eq_false (by decide)) rfl) (fun wv h2 => r_mul rfl rfl (by omega) (by omega)) hS ?_
        refine Sx.dt (i := 10) rfl (by kernel_rfl) (by kernel_rfl) (by kernel_rfl) (by kernel_rfl) (fun _ _ _ _ h => h) rfl (wnt1 (dj := 50) (b0 := false) rfl rfl rfl rfl (decide_eq_false (by decide)) rfl) (fun wv h2 => r_ne rfl rfl) hS ?_
        refine Sx.dt (i := 11) rfl (by kernel_rfl) (by kernel_rfl) (by kernel_rfl) (by kernel_rfl) (fun _ _ _ _ h => h) rfl (wnt0 rfl) (fun wv h2 => r_pkF rfl (decide_eq_false (by decide)) rfl) hS ?_
        refine Sx.dt (i := 12) rfl (by kernel_rfl) (by kernel_rfl) (by kernel_rfl) (by kernel_rfl) (fun _ _ _ _ h => h) rfl (wnt0 rfl) (fun wv h2 => r_mv rfl) hS ?_
        refine Sx.dt (i := 13) rfl (by kernel_rfl) (by kernel_rfl) (by kernel_rfl) (by kernel_rfl) (fun _ _ _ _ h => h) rfl (wnt1 (dj := 60) (b0 := false) rfl rfl rfl rfl (decide_eq_false (fun h => h rfl)) rfl) (fun wv h2 => r_fa fo47_0 rfl) hS ?_
        refine Sx.dt (i := 15) rfl (by kernel_rfl) (by kernel_rfl) (by kernel_rfl) (by kernel_rfl) (fun _ _ _ _ h => h) rfl (wnt1 (dj := 60) (b0 := false) rfl rfl rfl rfl (decide_eq_false (fun h => h rfl)) rfl) (fun wv h2 => r_fa fo47_3 rfl) hS ?_
        refine Sx.dt (i := 14) rfl (by kernel_rfl) (by kernel_rfl) (by kernel_rfl) (by kernel_rfl) (fun _ _ _ _ h => h) rfl (wnt1 (dj := 60) (b0 := false) rfl rfl rfl rfl (decide_eq_false (fun h => h rfl)) rfl) (fun wv h2 => r_ld ty3 rfl ((d_x11.rel h2 (show ¬ (False) from id)).seg) rfl) hS ?_
        refine Sx.dt (i := 16) rfl (by kernel_rfl) (by kernel_rfl) (by kernel_rfl) (by kernel_rfl) (fun _ _ _ _ h => h) rfl (wnt1 (dj := 60) (b0 := false) rfl rfl rfl rfl (decide_eq_false (fun h => h rfl)) rfl) (fun wv h2 => r_ld ty3 rfl ((d_x11.rel h2 (show ¬ (False) from id)).seg) rfl) hS ?_
        refine Sx.da1 (i := 17) (by kernel_rfl) ?_
        refine Sx.wc rfl (wnt1 (dj := 60) (b0 := false) rfl rfl rfl rfl (decide_eq_false (fun h => h rfl)) rfl) rfl (r_call en12 rfl) (level_any _ _ hT) ?_
        rintro e _ ⟨rfl, rfl⟩
        refine ⟨_, rfl, .inr hS, ?_⟩
        refine Sx.dt (i := 18) rfl (by kernel_rfl) (by kernel_rfl) (by kernel_rfl) (by kernel_rfl) (fun _ _ _ _ h => h) rfl (wnt1 (dj := 60) (b0 := false) rfl rfl rfl rfl (decide_eq_false (fun h => h rfl)) rfl) (fun wv h2 => r_ne rfl rfl) hS ?_
        refine Sx.dt (i := 19) rfl (by kernel_rfl) (by kernel_rfl) (by kernel_rfl) (by kernel_rfl) (fun _ _ _ _ h => h) rfl (wnt0 rfl) (fun wv h2 => r_pkF rfl (decide_eq_false (fun h => h rfl)) rfl) hS ?_
        refine Sx.dt (i := 20) rfl (by kernel_rfl) (by kernel_rfl) (by kernel_rfl) (by kernel_rfl) (fun _ _ _ _ h => h) rfl (wnt0 rfl) (fun wv h2 => r_mv rfl) hS ?_
        refine Sx.dt (i := 21) rfl (by kernel_rfl) (by kernel_rfl) (by kernel_rfl) (by kernel_rfl) (fun _ _ _ _ h => h) rfl (wnt1 (dj := 68) (b0 := false) rfl rfl rfl rfl (decide_eq_false (fun h => h rfl)) rfl) (fun wv h2 => r_mv rfl) hS ?_
        refine Sx.dt (i := 22) rfl (by kernel_rfl) (by kernel_rfl) (by kernel_rfl) (by kernel_rfl) (fun _ _ _ _ h => h) rfl (wnt1 (dj := 68) (b0 := false) rfl rfl rfl rfl (decide_eq_false (fun h => h rfl)) rfl) (fun wv h2 => r_fa fo47_2 rfl) hS ?_
        refine Sx.dt (i := 23) rfl (by kernel_rfl) (by kernel_rfl) (by kernel_rfl) (by kernel_rfl) (fun _ _ _ _ h => h) rfl (wnt1 (dj := 68) (b0 := false) rfl rfl rfl rfl (decide_eq_false (fun h => h rfl)) rfl) (fun wv h2 => r_ld ty3 rfl ((d_x11.rel h2 (show ¬ (False) from id)).seg) rfl) hS ?_
        refine Sx.dt (i := 24) rfl (by kernel_rfl) (by kernel_rfl) (by kernel_rfl) (by kernel_rfl) (fun _ _ _ _ h => h) rfl (wnt1 (dj := 68) (b0 := false) rfl rfl rfl rfl (decide_eq_false (fun h => h rfl)) rfl) (fun wv h2 => r_eq rfl rfl) hS ?_
        refine Sx.dt (i := 25) rfl (by kernel_rfl) (by kernel_rfl) (by kernel_rfl) (by kernel_rfl) (fun _ _ _ _ h => h) rfl (wnt1 (dj := 68) (b0 := false) rfl rfl rfl rfl (decide_eq_false (fun h => h rfl)) rfl) (fun wv h2 => r_neb Tryd.underlying4 rfl rfl) hS ?_
        refine Sx.dt (i := 26) rfl (by kernel_rfl) (by kernel_rfl) (by kernel_rfl) (by kernel_rfl) (fun _ _ _ _ h => h) rfl (wnt0 rfl) (fun wv h2 => r_pkF rfl (decide_eq_false (fun h => h rfl)) rfl) hS ?_
        refine Sx.dt (i := 27) rfl (by kernel_rfl) (by kernel_rfl) (by kernel_rfl) (by kernel_rfl) (fun _ _ _ _ h => h) rfl (wnt0 rfl) (fun wv h2 => r_mv rfl) hS ?_
        refine Sx.dt (i := 28) rfl (by kernel_rfl) (by kernel_rfl) (by kernel_rfl) (by kernel_rfl) (fun _ _ _ _ h => h) rfl (wnt1 (dj := 75) (b0 := false) rfl rfl rfl rfl (by rw [show decide ((1 : Int) + z8 = 100) = false from decide_eq_false (by omega)]; rfl) rfl) (fun wv h2 => r_mv rfl) hS ?_
        refine Sx.dt (i := 29) rfl (by kernel_rfl) (by kernel_rfl) (by kernel_rfl) (by kernel_rfl) (fun _ _ _ _ h => h) rfl (wnt1 (dj := 75) (b0 := false) rfl rfl rfl rfl (by rw [show decide ((1 : Int) + z8 = 100) = false from decide_eq_false (by omega)]; rfl) rfl) (fun wv h2 => r_not rfl) hS ?_
        refine Sx.dt (i := 30) rfl (by kernel_rfl) (by kernel_rfl) (by kernel_rfl) (by kernel_rfl) (fun _ _ _ _ h => h) rfl (wnt1 (dj := 75) (b0 := false) rfl rfl rfl rfl (by rw [show decide ((1 : Int) + z8 = 100) = false from decide_eq_false (by omega)]; rfl) rfl) (fun wv h2 => r_mv rfl) hS ?_
        refine Sx.dt (i := 31) rfl (by kernel_rfl) (by kernel_rfl) (by kernel_rfl) (by kernel_rfl) (fun _ _ _ _ h => h) rfl (wnt1 (dj := 78) (b0 := true) rfl rfl rfl rfl (rfl) rfl) (fun wv h2 => r_fa fo47_2 rfl) hS ?_
        refine Sx.dt (i := 33) rfl (by kernel_rfl) (by kernel_rfl) (by kernel_rfl) (by kernel_rfl) (fun _ _ _ _ h => h) rfl (wnt1 (dj := 78) (b0 := true) rfl rfl rfl rfl (rfl) rfl) (fun wv h2 => r_mv rfl) hS ?_
        refine Sx.dt (i := 32) rfl (by kernel_rfl) (by kernel_rfl) (by kernel_rfl) (by kernel_rfl) (fun _ _ _ _ h => h) rfl (wnt1 (dj := 78) (b0 := true) rfl rfl rfl rfl (rfl) rfl) (fun wv h2 => r_ld ty3 rfl ((d_x11.rel h2 (show ¬ (False) from id)).seg) rfl) hS ?_
        refine Sx.dt (i := 34) rfl (by kernel_rfl) (by kernel_rfl) (by kernel_rfl) (by kernel_rfl) (fun _ _ _ _ h => h) rfl (wnt1 (dj := 78) (b0 := true) rfl rfl rfl rfl (rfl) rfl) (fun wv h2 => r_add rfl rfl (by omega) (by omega)) hS ?_
        refine Sx.dt (i := 35) rfl (by kernel_rfl) (by kernel_rfl) (by kernel_rfl) (by kernel_rfl) (fun _ _ _ _ h => h) rfl (wnt1 (dj := 78) (b0 := true) rfl rfl rfl rfl (rfl) rfl) (fun wv h2 => r_ne rfl rfl) hS ?_
        refine Sx.dt (i := 36) rfl (by kernel_rfl) (by kernel_rfl) (by kernel_rfl) (by kernel_rfl) (fun _ _ _ _ h => h) rfl (wnt1 (dj := 75) (b0 := false) rfl rfl rfl rfl (by rw [show decide ((1 : Int) + z8 = 100) = false from decide_eq_false (by omega)]; rfl) rfl) (fun wv h2 => r_pkT rfl (rfl) rfl) hS ?_
        refine Sx.dt (i := 37) rfl (by kernel_rfl) (by kernel_rfl) (by kernel_rfl) (by kernel_rfl) (fun _ _ _ _ h => h) rfl (wnt0 rfl) (fun wv h2 => r_pkF rfl (by rw [show decide ((1 : Int) + z8 = 100) = false from decide_eq_false (by omega)]; rfl) rfl) hS ?_
        refine Sx.dz (by kernel_rfl) ?_
        clear hS d_hT d_HX d_x4 d_HW d_x11
        refine Sx.nT ?_
        refine Sx.cf rfl (decide_eq_false (by omega)) ?_
        refine wp_skip ?_
        refine Sx.nT ?_
        refine Sx.seq ?_
        refine Sx.reg ?_
        refine Sx.sv (r_ldr ty27 rfl (x4.seg) rfl) rfl (wnt0 rfl) ?_
        refine Sx.sv (r_mv rfl) rfl (wnt0 rfl) ?_
        have tq14_ht := tape_lt ht
        refine Sx.sc (r_call en22 rfl) rfl (wnt0 rfl) (rreach2_any x v (c : Int) _ (HX.ok.base (Nat.zero_le _)) hok hc) ?_
        rintro e w14 ⟨l, A, cc, rfl, hl24, hF, hlo, hb14⟩
        refine ⟨_, rfl, ?_⟩
        have r14 := Rel.of0 hb14
        replace hT := hT.nw r14
        replace ht := tape_rel ht r14 (fun _ _ h => h)
        replace HX := HX.nw r14
        replace x4 := x4.nw r14
        replace HW := HW.nw r14
        replace x11 := x11.nw r14
        replace E := E.then r14 (fun _ _ h => h.elim)
        replace E7 := E7.then r14 (fun _ _ h => h.elim)
        have HL := Has.row (row_of_own hlo)
        refine Sx.sv (r_ln Tryd.underlying22 rfl) rfl (wnt0 rfl) ?_
        refine Sx.sv (r_mv rfl) rfl (wnt0 rfl) ?_
        refine wnil ?_
        refine Sx.nT ?_
        refine Sx.blk ?_
        have t15_hT := hT.lt
        have t15_HX := HX.le
        have t15_x4 := x4.lt
        have t15_HW := HW.le
        have t15_x11 := x11.lt
        have t15_HL := HL.le
        refine Sx.lp (Nat) (fun k => [(90, .int .i64 (k : Int)), (89, .int .i64 (l.length : Int)), (88, .slice A l.length cc), (9, .pointer (some ⟨b11, 0, none⟩)), (6, .int .i64 (c : Int)), (3, .pointer (some ⟨b2, 0, none⟩)), (4, .pointer (some ⟨b4, 0, none⟩)), (5, .slice Aw ws.length cw)]) (fun k wr => Rel (fun x => x = b2 ∨ w14.heap.size ≤ x) w14 wr ∧ TapeOk wr b2 ∧ k ≤ l.length) (fun k => l.length - k) 0 ⟨rfl, rfl, rfl, rfl, rfl, rfl, rfl, rfl, trivial⟩ ⟨Rel.refl _ _, ht, Nat.zero_le _⟩ ?_
        rintro k fr w15 ⟨E15, htn, hk⟩
        show Code.wp _ _ _ (Fa fr [(90, .int .i64 (k : Int)), (89, .int .i64 (l.length : Int)), (88, .slice A l.length cc), (9, .pointer (some ⟨b11, 0, none⟩)), (6, .int .i64 (c : Int)), (3, .pointer (some ⟨b2, 0, none⟩)), (4, .pointer (some ⟨b4, 0, none⟩)), (5, .slice Aw ws.length cw)]) _
        replace hT := hT.rel E15 (show ¬ (0 = b2 ∨ w14.heap.size ≤ 0) by omega)
        replace ht := htn; clear htn
        replace HX := HX.rel E15 (fun x h1 h2 => show ¬ (x = b2 ∨ w14.heap.size ≤ x) by omega)
        replace x4 := x4.rel E15 (show ¬ (b4 = b2 ∨ w14.heap.size ≤ b4) by omega)
        replace HW := HW.rel E15 (fun x h1 h2 => show ¬ (x = b2 ∨ w14.heap.size ≤ x) by omega)
        replace x11 := x11.rel E15 (show ¬ (b11 = b2 ∨ w14.heap.size ≤ b11) by omega)
        replace HL := HL.rel E15 (fun x h1 h2 => show ¬ (x = b2 ∨ w14.heap.size ≤ x) by omega)
        have s15_E := E.size
        replace E := E.then E15 (fun x hx (e : x = b2 ∨ w14.heap.size ≤ x) => show w.heap.size ≤ x by omega)
        have s15_E7 := E7.size
        replace E7 := E7.then E15 (fun x hx (e : x = b2 ∨ w14.heap.size ≤ x) => show x = b2 ∨ w6.heap.size ≤ x by omega)
        refine Sx.seq ?_
        refine Sx.reg ?_
        refine Sx.sv (r_lt rfl rfl) rfl (wnt0 rfl) ?_
        refine wnil ?_
        refine Sx.nT ?_
        refine Sx.seq ?_
        by_cases hlt2 : k < l.length
        · refine Sx.ct rfl (decide_eq_true (by omega)) ?_
          obtain ⟨ba, oa, hA1, -, hba, hca⟩ := HL.ok.z hlt2
          have m1 : Me _ ba (oa + k) [_] := .one hba hca
          obtain ⟨hq, hqr⟩ := hF _ (e0_mem hlt2)
          refine wp_skip ?_
          refine Sx.nT ?_
          refine Sx.seq ?_
          refine Sx.blk ?_
          refine Sx.seq ?_
          refine Sx.reg ?_
          refine Sx.sv (r_ix1i ix22 rfl (by first | rfl | assumption) rfl (by first | rfl | assumption) (by omega)) rfl (wnt0 rfl) ?_
          refine Sx.sv (r_ld0 ty3 rfl (m1.seg) rfl) rfl (wnt0 rfl) ?_
          refine Sx.sv (r_as rfl) rfl (wnt0 rfl) ?_
          refine wnil ?_
          refine Sx.nT ?_
          refine Sx.seq ?_
          refine Sx.reg ?_
          refine Sx.sv (r_ldr ty27 rfl (x4.seg) rfl) rfl (wnt0 rfl) ?_
          refine Sx.sv (r_mv rfl) rfl (wnt0 rfl) ?_
          refine Sx.sv (r_mv rfl) rfl (wnt0 rfl) ?_
          have hle : smW (pwr x (e0 l k)) ws ws.length ≤ wo := by
            rw [← hwo2]
            exact smW_up ws.length (fun i hi => ⟨(pwr_b hok _ (by omega)).1, by
              unfold pwr
              rw [pw_at _ _ (by omega), pw_at _ _ (by omega)]
              exact gt_reach hqr _⟩) (fun i hi => ⟨(hws i hi).1, Int.le_refl _⟩) _ (Nat.le_refl _)
          have tq16_ht := tape_lt ht
          refine Sx.sc (r_call en16 rfl) rfl (wnt0 rfl) (worth_yes x v ws Aw cw (e0 l k) _ (HX.ok.base (Nat.zero_le _)) (HW.ok.base (Nat.zero_le _)) hok hq hwn hws) ?_
          rintro e w16 ⟨rfl, hb16⟩
          refine ⟨_, rfl, ?_⟩
          have r16 := Rel.of0 hb16
          replace hT := hT.nw r16
          replace ht := tape_rel ht r16 (fun _ _ h => h)
          replace HX := HX.nw r16
          replace x4 := x4.nw r16
          replace HW := HW.nw r16
          replace x11 := x11.nw r16
          replace HL := HL.nw r16
          replace E := E.then r16 (fun _ _ h => h.elim)
          replace E7 := E7.then r16 (fun _ _ h => h.elim)
          replace E15 := E15.then r16 (fun _ _ h => h.elim)
          refine Sx.sv (r_mv rfl) rfl (wnt0 rfl) ?_
          refine Sx.sv (r_ex rfl rfl) rfl (wnt0 rfl) ?_
          refine Sx.sv (r_ex rfl rfl) rfl (wnt0 rfl) ?_
          refine Sx.sv (r_as rfl) rfl (wnt0 rfl) ?_
          refine Sx.sv (r_as rfl) rfl (wnt0 rfl) ?_
          refine wnil ?_
          refine Sx.nT ?_
          refine Sx.seq ?_
          refine Sx.reg ?_
          refine Sx.sv (r_mv rfl) rfl (wnt0 rfl) ?_
          refine Sx.sv (r_ne rfl rfl) rfl (wnt0 rfl) ?_
          refine Sx.sv (r_mv rfl) rfl (wnt0 rfl) ?_
          refine Sx.sv (r_mv rfl) rfl (wnt1 (dj := 103) (b0 := false) rfl rfl rfl rfl (decide_eq_false (by decide)) rfl) ?_
          refine Sx.sv (r_fa fo47_1 rfl) rfl (wnt1 (dj := 103) (b0 := false) rfl rfl rfl rfl (decide_eq_false (by decide)) rfl) ?_
          refine Sx.sv (r_ld ty3 rfl (x11.seg) rfl) rfl (wnt1 (dj := 103) (b0 := false) rfl rfl rfl rfl (decide_eq_false (by decide)) rfl) ?_
          refine Sx.sv (r_gt rfl rfl) rfl (wnt1 (dj := 103) (b0 := false) rfl rfl rfl rfl (decide_eq_false (by decide)) rfl) ?_
          refine Sx.sv (r_pkF rfl (decide_eq_false (by decide)) rfl) rfl (wnt0 rfl) ?_
          refine wnil ?_
          refine Sx.nT ?_
          refine Sx.cf rfl (decide_eq_false (by omega)) ?_
          refine wp_skip ?_
          refine Sx.nB ?_
          refine Sx.nT ?_
          refine Sx.reg ?_
          refine Sx.sv (r_add rfl rfl (by omega) (by omega)) rfl (wnt0 rfl) ?_
          refine Sx.sv (r_mv rfl) rfl (wnt0 rfl) ?_
          refine wnil ?_
          refine Sx.nT ?_
          exact Sx.lpe (k + 1) ⟨rfl, rfl, rfl, rfl, rfl, rfl, rfl, rfl, trivial⟩ ⟨E15, ht, hlt2⟩ (show _ - (k + 1) < _ - k by omega)
        · refine Sx.cf rfl (decide_eq_false (by omega)) ?_
          refine wp_exit ?_
          refine Sx.eT ?_
          refine Sx.eT ?_
          refine Sx.eB ?_
          refine Sx.nB ?_
          refine Sx.nT ?_
          refine Sx.reg ?_
          refine Sx.sv (r_mv rfl) rfl (wnt0 rfl) ?_
          refine Sx.sv (r_add rfl rfl (by omega) (by omega)) rfl (wnt0 rfl) ?_
          refine Sx.sv (r_as rfl) rfl (wnt0 rfl) ?_
          refine wnil ?_
          refine Sx.nT ?_
          exact Sx.lpe (c + 1) ⟨rfl, rfl, rfl, rfl, trivial⟩ ⟨E7, ht, hlt⟩ (show n - (c + 1) < n - c by omega)
      · have tq17_ht := tape_lt ht
        refine Sx.sc (r_call en18 rfl) rfl (wnt0 rfl) (rate_yes2 x v ws Aw cw (c : Int) z8 true ws.length wo (100) _ (HX.ok.base (Nat.zero_le _)) rfl (HW.ok.base (Nat.zero_le _)) hok hc hwn hws ⟨by omega, by omega⟩ hT hwo2 rfl) ?_
        rintro e w17 ⟨rfl, hb17⟩
        refine ⟨_, rfl, ?_⟩
        have r17 := Rel.of0 hb17
        replace hT := hT.nw r17
        replace ht := tape_rel ht r17 (fun _ _ h => h)
        replace HX := HX.nw r17
        replace x4 := x4.nw r17
        replace HW := HW.nw r17
        replace E := E.then r17 (fun _ _ h => h.elim)
        replace E7 := E7.then r17 (fun _ _ h => h.elim)
        have hmb := mul_b (A := 7200) (B := 100) (a := wo) (b := 100) (by omega) (by omega) (by omega) (by omega)
        refine Sx.sv (r_mv rfl) rfl (wnt0 rfl) ?_
        refine Sx.sv (r_ex rfl rfl) rfl (wnt0 rfl) ?_
        refine Sx.sv (r_ex rfl rfl) rfl (wnt0 rfl) ?_
        refine Sx.sy (y_all zi47 rfl) rfl (wnt0 rfl) ?_
        rintro _ w18 ⟨b18, rfl, n18, x18⟩
        have l18_hT : 0 < b18 := Nat.lt_of_lt_of_le hT.lt n18.ge
        have l18_ht : b2 < b18 := Nat.lt_of_lt_of_le (tape_lt ht) n18.ge
        have l18_HX : w3.heap.size ≤ b18 := Nat.le_trans HX.le n18.ge
        have l18_x4 : b4 < b18 := Nat.lt_of_lt_of_le x4.lt n18.ge
        have l18_HW : w6.heap.size ≤ b18 := Nat.le_trans HW.le n18.ge
        have g18 : w.heap.size ≤ b18 := Nat.le_trans E.size n18.ge
        have g18_E7 : w6.heap.size ≤ b18 := Nat.le_trans E7.size n18.ge
        replace hT := hT.nw n18.r
        replace ht := tape_rel ht n18.r (fun _ _ h => h)
        replace HX := HX.nw n18.r
        replace x4 := x4.nw n18.r
        replace HW := HW.nw n18.r
        replace E := E.then n18.r (fun _ _ h => h.elim)
        replace E7 := E7.then n18.r (fun _ _ h => h.elim)
        refine Sx.syu (u_stR ty47 rfl rfl rfl x18 rfl rfl) rfl (wnt0 rfl) ?_
        rintro w19 ⟨r19, z19, x19n⟩
        replace hT := hT.ch r19 (by omega)
        replace ht := tape_rel ht r19 (fun b hb (e : b = b18) => by omega)
        replace HX := HX.ch r19 (by omega)
        replace x4 := x4.ch r19 (by omega)
        replace HW := HW.ch r19 (by omega)
        replace E := E.then r19 (fun x hx (e : x = b18) => show w.heap.size ≤ x by omega)
        replace E7 := E7.then r19 (fun x hx (e : x = b18) => show x = b2 ∨ w6.heap.size ≤ x by omega)
        replace x18 := x19n; clear x19n
        refine Sx.sv (r_as rfl) rfl (wnt0 rfl) ?_
        refine wnil ?_
        refine Sx.nT ?_
        refine Sx.seq ?_
        refine Sx.seq ?_
        refine Sx.drg 38 (fun w20 wv => Rel (fun x => False) w20 wv) mx (fun w20 hd => ?_)
        replace hT := hT.nw hd
        replace ht := tape_rel ht hd (fun _ _ h => h)
        replace HX := HX.nw hd
        replace x4 := x4.nw hd
        replace HW := HW.nw hd
        replace x18 := x18.nw hd
        replace E := E.then hd (fun _ _ h => h.elim)
        replace E7 := E7.then hd (fun _ _ h => h.elim)
        have sd20_E := E.size
        have sd20_E7 := E7.size
        have q_hT := hT.lt
        have q_HX := HX.le
        have q_x4 := x4.lt
        have q_HW := HW.le
        have q_x18 := x18.lt
        have d_hT := hT
        have d_HX := HX
        have d_x4 := x4
        have d_HW := HW
        have d_x18 := x18
        have hS : Rel (fun x => False) w20 w20 := Rel.refl _ _
        refine Sx.dt (i := 0) rfl (by kernel_rfl) (by kernel_rfl) (by kernel_rfl) (by kernel_rfl) (fun _ _ _ _ h => h) rfl (wnt0 rfl) (fun wv h2 => r_mv rfl) hS ?_
        refine Sx.dt (i := 1) rfl (by kernel_rfl) (by kernel_rfl) (by kernel_rfl) (by kernel_rfl) (fun _ _ _ _ h => h) rfl (wnt0 rfl) (fun wv h2 => r_ne rfl rfl) hS ?_
        refine Sx.dt (i := 2) rfl (by kernel_rfl) (by kernel_rfl) (by kernel_rfl) (by kernel_rfl) (fun _ _ _ _ h => h) rfl (wnt0 rfl) (fun wv h2 => r_mv rfl) hS ?_
        refine Sx.dt (i := 3) rfl (by kernel_rfl) (by kernel_rfl) (by kernel_rfl) (by kernel_rfl) (fun _ _ _ _ h => h) rfl (wnt1 (dj := 50) (b0 := false) rfl rfl rfl rfl (decide_eq_false (by decide)) rfl) (fun wv h2 => r_fa fo47_3 rfl) hS ?_
        refine Sx.dt (i := 5) rfl (by kernel_rfl) (by kernel_rfl) (by kernel_rfl) (by kernel_rfl) (fun _ _ _ _ h => h) rfl (wnt1 (dj := 50) (b0 := false) rfl rfl rfl rfl (decide_eq_false (by decide)) rfl) (fun wv h2 => r_fa fo47_1 rfl) hS ?_
        refine Sx.dt (i := 7) rfl (by kernel_rfl) (by kernel_rfl) (by kernel_rfl) (by kernel_rfl) (fun _ _ _ _ h => h) rfl (wnt1 (dj := 50) (b0 := false) rfl rfl rfl rfl (decide_eq_false (by decide)) rfl) (fun wv h2 => r_fa fo47_2 rfl) hS ?_
        refine Sx.dt (i := 4) rfl (by kernel_rfl) (by kernel_rfl) (by kernel_rfl) (by kernel_rfl) (fun _ _ _ _ h => h) rfl (wnt1 (dj := 50) (b0 := false) rfl rfl rfl rfl (decide_eq_false (by decide)) rfl) (fun wv h2 => r_ld ty3 rfl ((d_x18.rel h2 (show ¬ (False) from id)).seg) rfl) hS ?_
        refine Sx.dt (i := 6) rfl (by kernel_rfl) (by kernel_rfl) (by kernel_rfl) (by kernel_rfl) (fun _ _ _ _ h => h) rfl (wnt1 (dj := 50) (b0 := false) rfl rfl rfl rfl (decide_eq_false (by decide)) rfl) (fun wv h2 => r_ld ty3 rfl ((d_x18.rel h2 (show ¬ (False) from id)).seg) rfl) hS ?_
        refine Sx.dt (i := 8) rfl (by kernel_rfl) (by kernel_rfl) (by kernel_rfl) (by kernel_rfl) (fun _ _ _ _ h => h) rfl (wnt1 (dj := 50) (b0 := false) rfl rfl rfl rfl (decide_eq_false (by decide)) rfl) (fun wv h2 => r_ld ty3 rfl ((d_x18.rel h2 (show ¬ (False) from id)).seg) rfl) hS ?_
        refine Sx.dt (i := 9) rfl (by kernel_rfl) (by kernel_rfl) (by kernel_rfl) (by kernel_rfl) (fun _ _ _ _ h => h) rfl (wnt1 (dj := 50) (b0 := false) rfl rfl rfl rfl (decide_eq_false (by decide)) rfl) (fun wv h2 => r_mul rfl rfl (by omega) (by omega)) hS ?_
        refine Sx.dt (i := 10) rfl (by kernel_rfl) (by kernel_rfl) (by kernel_rfl) (by kernel_rfl) (fun _ _ _ _ h => h) rfl (wnt1 (dj := 50) (b0 := false) rfl rfl rfl rfl (decide_eq_false (by decide)) rfl) (fun wv h2 => r_ne rfl rfl) hS ?_
        refine Sx.dt (i := 11) rfl (by kernel_rfl) (by kernel_rfl) (by kernel_rfl) (by kernel_rfl) (fun _ _ _ _ h => h) rfl (wnt0 rfl) (fun wv h2 => r_pkF rfl (decide_eq_false (by decide)) rfl) hS ?_
        refine Sx.dt (i := 12) rfl (by kernel_rfl) (by kernel_rfl) (by kernel_rfl) (by kernel_rfl) (fun _ _ _ _ h => h) rfl (wnt0 rfl) (fun wv h2 => r_mv rfl) hS ?_
        refine Sx.dt (i := 13) rfl (by kernel_rfl) (by kernel_rfl) (by kernel_rfl) (by kernel_rfl) (fun _ _ _ _ h => h) rfl (wnt1 (dj := 60) (b0 := false) rfl rfl rfl rfl (decide_eq_false (fun h => h rfl)) rfl) (fun wv h2 => r_fa fo47_0 rfl) hS ?_
        refine Sx.dt (i := 15) rfl (by kernel_rfl) (by kernel_rfl) (by kernel_rfl) (by kernel_rfl) (fun _ _ _ _ h => h) rfl (wnt1 (dj := 60) (b0 := false) rfl rfl rfl rfl (decide_eq_false (fun h => h rfl)) rfl) (fun wv h2 => r_fa fo47_3 rfl) hS ?_
        refine Sx.dt (i := 14) rfl (by kernel_rfl) (by kernel_rfl) (by kernel_rfl) (by kernel_rfl) (fun _ _ _ _ h => h) rfl (wnt1 (dj := 60) (b0 := false) rfl rfl rfl rfl (decide_eq_false (fun h => h rfl)) rfl) (fun wv h2 => r_ld ty3 rfl ((d_x18.rel h2 (show ¬ (False) from id)).seg) rfl) hS ?_
        refine Sx.dt (i := 16) rfl (by kernel_rfl) (by kernel_rfl) (by kernel_rfl) (by kernel_rfl) (fun _ _ _ _ h => h) rfl (wnt1 (dj := 60) (b0 := false) rfl rfl rfl rfl (decide_eq_false (fun h => h rfl)) rfl) (fun wv h2 => r_ld ty3 rfl ((d_x18.rel h2 (show ¬ (False) from id)).seg) rfl) hS ?_
        refine Sx.da1 (i := 17) (by kernel_rfl) ?_
        refine Sx.wc rfl (wnt1 (dj := 60) (b0 := false) rfl rfl rfl rfl (decide_eq_false (fun h => h rfl)) rfl) rfl (r_call en12 rfl) (level_any _ _ hT) ?_
        rintro e _ ⟨rfl, rfl⟩
        refine ⟨_, rfl, .inr hS, ?_⟩
        refine Sx.dt (i := 18) rfl (by kernel_rfl) (by kernel_rfl) (by kernel_rfl) (by kernel_rfl) (fun _ _ _ _ h => h) rfl (wnt1 (dj := 60) (b0 := false) rfl rfl rfl rfl (decide_eq_false (fun h => h rfl)) rfl) (fun wv h2 => r_ne rfl rfl) hS ?_
        refine Sx.dt (i := 19) rfl (by kernel_rfl) (by kernel_rfl) (by kernel_rfl) (by kernel_rfl) (fun _ _ _ _ h => h) rfl (wnt0 rfl) (fun wv h2 => r_pkF rfl (decide_eq_false (fun h => h rfl)) rfl) hS ?_
        refine Sx.dt (i := 20) rfl (by kernel_rfl) (by kernel_rfl) (by kernel_rfl) (by kernel_rfl) (fun _ _ _ _ h => h) rfl (wnt0 rfl) (fun wv h2 => r_mv rfl) hS ?_
        refine Sx.dt (i := 21) rfl (by kernel_rfl) (by kernel_rfl) (by kernel_rfl) (by kernel_rfl) (fun _ _ _ _ h => h) rfl (wnt1 (dj := 68) (b0 := false) rfl rfl rfl rfl (decide_eq_false (fun h => h rfl)) rfl) (fun wv h2 => r_mv rfl) hS ?_
        refine Sx.dt (i := 22) rfl (by kernel_rfl) (by kernel_rfl) (by kernel_rfl) (by kernel_rfl) (fun _ _ _ _ h => h) rfl (wnt1 (dj := 68) (b0 := false) rfl rfl rfl rfl (decide_eq_false (fun h => h rfl)) rfl) (fun wv h2 => r_fa fo47_2 rfl) hS ?_
        refine Sx.dt (i := 23) rfl (by kernel_rfl) (by kernel_rfl) (by kernel_rfl) (by kernel_rfl) (fun _ _ _ _ h => h) rfl (wnt1 (dj := 68) (b0 := false) rfl rfl rfl rfl (decide_eq_false (fun h => h rfl)) rfl) (fun wv h2 => r_ld ty3 rfl ((d_x18.rel h2 (show ¬ (False) from id)).seg) rfl) hS ?_
        refine Sx.dt (i := 24) rfl (by kernel_rfl) (by kernel_rfl) (by kernel_rfl) (by kernel_rfl) (fun _ _ _ _ h => h) rfl (wnt1 (dj := 68) (b0 := false) rfl rfl rfl rfl (decide_eq_false (fun h => h rfl)) rfl) (fun wv h2 => r_eq rfl rfl) hS ?_
        refine Sx.dt (i := 25) rfl (by kernel_rfl) (by kernel_rfl) (by kernel_rfl) (by kernel_rfl) (fun _ _ _ _ h => h) rfl (wnt1 (dj := 68) (b0 := false) rfl rfl rfl rfl (decide_eq_false (fun h => h rfl)) rfl) (fun wv h2 => r_neb Tryd.underlying4 rfl rfl) hS ?_
        refine Sx.dt (i := 26) rfl (by kernel_rfl) (by kernel_rfl) (by kernel_rfl) (by kernel_rfl) (fun _ _ _ _ h => h) rfl (wnt0 rfl) (fun wv h2 => r_pkF rfl (decide_eq_false (fun h => h rfl)) rfl) hS ?_
        refine Sx.dt (i := 27) rfl (by kernel_rfl) (by kernel_rfl) (by kernel_rfl) (by kernel_rfl) (fun _ _ _ _ h => h) rfl (wnt0 rfl) (fun wv h2 => r_mv rfl) hS ?_
        refine Sx.dt (i := 28) rfl (by kernel_rfl) (by kernel_rfl) (by kernel_rfl) (by kernel_rfl) (fun _ _ _ _ h => h) rfl (wnt1 (dj := 75) (b0 := false) rfl rfl rfl rfl (rfl) rfl) (fun wv h2 => r_mv rfl) hS ?_
        refine Sx.dt (i := 29) rfl (by kernel_rfl) (by kernel_rfl) (by kernel_rfl) (by kernel_rfl) (fun _ _ _ _ h => h) rfl (wnt1 (dj := 75) (b0 := false) rfl rfl rfl rfl (rfl) rfl) (fun wv h2 => r_not rfl) hS ?_
        refine Sx.dt (i := 30) rfl (by kernel_rfl) (by kernel_rfl) (by kernel_rfl) (by kernel_rfl) (fun _ _ _ _ h => h) rfl (wnt1 (dj := 75) (b0 := false) rfl rfl rfl rfl (rfl) rfl) (fun wv h2 => r_mv rfl) hS ?_
        refine Sx.dp (i := 31) rfl (by kernel_rfl) (by kernel_rfl) (by kernel_rfl) (by kernel_rfl) (fun _ _ _ _ h => h) rfl (wntF (dj := 78) (b0 := false) rfl rfl rfl rfl (rfl) rfl) hS ?_
        refine Sx.dp (i := 33) rfl (by kernel_rfl) (by kernel_rfl) (by kernel_rfl) (by kernel_rfl) (fun _ _ _ _ h => h) rfl (wntF (dj := 78) (b0 := false) rfl rfl rfl rfl (rfl) rfl) hS ?_
        refine Sx.dp (i := 32) rfl (by kernel_rfl) (by kernel_rfl) (by kernel_rfl) (by kernel_rfl) (fun _ _ _ _ h => h) rfl (wntF (dj := 78) (b0 := false) rfl rfl rfl rfl (rfl) rfl) hS ?_
        refine Sx.dp (i := 34) rfl (by kernel_rfl) (by kernel_rfl) (by kernel_rfl) (by kernel_rfl) (fun _ _ _ _ h => h) rfl (wntF (dj := 78) (b0 := false) rfl rfl rfl rfl (rfl) rfl) hS ?_
        refine Sx.dp (i := 35) rfl (by kernel_rfl) (by kernel_rfl) (by kernel_rfl) (by kernel_rfl) (fun _ _ _ _ h => h) rfl (wntF (dj := 78) (b0 := false) rfl rfl rfl rfl (rfl) rfl) hS ?_
        refine Sx.dt (i := 36) rfl (by kernel_rfl) (by kernel_rfl) (by kernel_rfl) (by kernel_rfl) (fun _ _ _ _ h => h) rfl (wnt1 (dj := 75) (b0 := false) rfl rfl rfl rfl (rfl) rfl) (fun wv h2 => r_pkF rfl (rfl) rfl) hS ?_
        refine Sx.dt (i := 37) rfl (by kernel_rfl) (by kernel_rfl) (by kernel_rfl) (by kernel_rfl) (fun _ _ _ _ h => h) rfl (wnt0 rfl) (fun wv h2 => r_pkF rfl (rfl) rfl) hS ?_
        refine Sx.dz (by kernel_rfl) ?_
        clear hS d_hT d_HX d_x4 d_HW d_x18
        refine Sx.nT ?_
        refine Sx.cf rfl (rfl) ?_
        refine wp_skip ?_
        refine Sx.nT ?_
        refine Sx.seq ?_
        refine Sx.reg ?_
        refine Sx.sv (r_ldr ty27 rfl (x4.seg) rfl) rfl (wnt0 rfl) ?_
        refine Sx.sv (r_mv rfl) rfl (wnt0 rfl) ?_
        have tq21_ht := tape_lt ht
        refine Sx.sc (r_call en22 rfl) rfl (wnt0 rfl) (rreach2_any x v (c : Int) _ (HX.ok.base (Nat.zero_le _)) hok hc) ?_
        rintro e w21 ⟨l, A, cc, rfl, hl24, hF, hlo, hb21⟩
        refine ⟨_, rfl, ?_⟩
        have r21 := Rel.of0 hb21
        replace hT := hT.nw r21
        replace ht := tape_rel ht r21 (fun _ _ h => h)
        replace HX := HX.nw r21
        replace x4 := x4.nw r21
        replace HW := HW.nw r21
        replace x18 := x18.nw r21
        replace E := E.then r21 (fun _ _ h => h.elim)
        replace E7 := E7.then r21 (fun _ _ h => h.elim)
        have HL := Has.row (row_of_own hlo)
        refine Sx.sv (r_ln Tryd.underlying22 rfl) rfl (wnt0 rfl) ?_
        refine Sx.sv (r_mv rfl) rfl (wnt0 rfl) ?_
        refine wnil ?_
        refine Sx.nT ?_
        refine Sx.blk ?_
        have t22_hT := hT.lt
        have t22_HX := HX.le
        have t22_x4 := x4.lt
        have t22_HW := HW.le
        have t22_x18 := x18.lt
        have t22_HL := HL.le
        refine Sx.lp (Nat) (fun k => [(90, .int .i64 (k : Int)), (89, .int .i64 (l.length : Int)), (88, .slice A l.length cc), (9, .pointer (some ⟨b18, 0, none⟩)), (6, .int .i64 (c : Int)), (3, .pointer (some ⟨b2, 0, none⟩)), (4, .pointer (some ⟨b4, 0, none⟩)), (5, .slice Aw ws.length cw)]) (fun k wr => Rel (fun x => x = b2 ∨ w21.heap.size ≤ x) w21 wr ∧ TapeOk wr b2 ∧ k ≤ l.length) (fun k => l.length - k) 0 ⟨rfl, rfl, rfl, rfl, rfl, rfl, rfl, rfl, trivial⟩ ⟨Rel.refl _ _, ht, Nat.zero_le _⟩ ?_
        rintro k fr w22 ⟨E22, htn, hk⟩
        show Code.wp _ _ _ (Fa fr [(90, .int .i64 (k : Int)), (89, .int .i64 (l.length : Int)), (88, .slice A l.length cc), (9, .pointer (some ⟨b18, 0, none⟩)), (6, .int .i64 (c : Int)), (3, .pointer (some ⟨b2, 0, none⟩)), (4, .pointer (some ⟨b4, 0, none⟩)), (5, .slice Aw ws.length cw)]) _
        replace hT := hT.rel E22 (show ¬ (0 = b2 ∨ w21.heap.size ≤ 0) by omega)
        replace ht := htn; clear htn
        replace HX := HX.rel E22 (fun x h1 h2 => show ¬ (x = b2 ∨ w21.heap.size ≤ x) by omega)
        replace x4 := x4.rel E22 (show ¬ (b4 = b2 ∨ w21.heap.size ≤ b4) by omega)
        replace HW := HW.rel E22 (fun x h1 h2 => show ¬ (x = b2 ∨ w21.heap.size ≤ x) by omega)
        replace x18 := x18.rel E22 (show ¬ (b18 = b2 ∨ w21.heap.size ≤ b18) by omega)
        replace HL := HL.rel E22 (fun x h1 h2 => show ¬ (x = b2 ∨ w21.heap.size ≤ x) by omega)
        have s22_E := E.size
        replace E := E.then E22 (fun x hx (e : x = b2 ∨ w21.heap.size ≤ x) => show w.heap.size ≤ x by omega)
        have s22_E7 := E7.size
        replace E7 := E7.then E22 (fun x hx (e : x = b2 ∨ w21.heap.size ≤ x) => show x = b2 ∨ w6.heap.size ≤ x by omega)
        refine Sx.seq ?_
        refine Sx.reg ?_
        refine Sx.sv (r_lt rfl rfl) rfl (wnt0 rfl) ?_
        refine wnil ?_
        refine Sx.nT ?_
        refine Sx.seq ?_
        by_cases hlt2 : k < l.length
        · refine Sx.ct rfl (decide_eq_true (by omega)) ?_
          obtain ⟨ba, oa, hA1, -, hba, hca⟩ := HL.ok.z hlt2
          have m1 : Me _ ba (oa + k) [_] := .one hba hca
          obtain ⟨hq, hqr⟩ := hF _ (e0_mem hlt2)
          refine wp_skip ?_
          refine Sx.nT ?_
          refine Sx.seq ?_
          refine Sx.blk ?_
          refine Sx.seq ?_
          refine Sx.reg ?_
          refine Sx.sv (r_ix1i ix22 rfl (by first | rfl | assumption) rfl (by first | rfl | assumption) (by omega)) rfl (wnt0 rfl) ?_
          refine Sx.sv (r_ld0 ty3 rfl (m1.seg) rfl) rfl (wnt0 rfl) ?_
          refine Sx.sv (r_as rfl) rfl (wnt0 rfl) ?_
          refine wnil ?_
          refine Sx.nT ?_
          refine Sx.seq ?_
          refine Sx.reg ?_
          refine Sx.sv (r_ldr ty27 rfl (x4.seg) rfl) rfl (wnt0 rfl) ?_
          refine Sx.sv (r_mv rfl) rfl (wnt0 rfl) ?_
          refine Sx.sv (r_mv rfl) rfl (wnt0 rfl) ?_
          have hle : smW (pwr x (e0 l k)) ws ws.length ≤ wo := by
            rw [← hwo2]
            exact smW_up ws.length (fun i hi => ⟨(pwr_b hok _ (by omega)).1, by
              unfold pwr
              rw [pw_at _ _ (by omega), pw_at _ _ (by omega)]
              exact gt_reach hqr _⟩) (fun i hi => ⟨(hws i hi).1, Int.le_refl _⟩) _ (Nat.le_refl _)
          have tq23_ht := tape_lt ht
          refine Sx.sc (r_call en16 rfl) rfl (wnt0 rfl) (worth_yes x v ws Aw cw (e0 l k) _ (HX.ok.base (Nat.zero_le _)) (HW.ok.base (Nat.zero_le _)) hok hq hwn hws) ?_
          rintro e w23 ⟨rfl, hb23⟩
          refine ⟨_, rfl, ?_⟩
          have r23 := Rel.of0 hb23
          replace hT := hT.nw r23
          replace ht := tape_rel ht r23 (fun _ _ h => h)
          replace HX := HX.nw r23
          replace x4 := x4.nw r23
          replace HW := HW.nw r23
          replace x18 := x18.nw r23
          replace HL := HL.nw r23
          replace E := E.then r23 (fun _ _ h => h.elim)
          replace E7 := E7.then r23 (fun _ _ h => h.elim)
          replace E22 := E22.then r23 (fun _ _ h => h.elim)
          refine Sx.sv (r_mv rfl) rfl (wnt0 rfl) ?_
          refine Sx.sv (r_ex rfl rfl) rfl (wnt0 rfl) ?_
          refine Sx.sv (r_ex rfl rfl) rfl (wnt0 rfl) ?_
          refine Sx.sv (r_as rfl) rfl (wnt0 rfl) ?_
          refine Sx.sv (r_as rfl) rfl (wnt0 rfl) ?_
          refine wnil ?_
          refine Sx.nT ?_
          refine Sx.seq ?_
          refine Sx.reg ?_
          refine Sx.sv (r_mv rfl) rfl (wnt0 rfl) ?_
          refine Sx.sv (r_ne rfl rfl) rfl (wnt0 rfl) ?_
          refine Sx.sv (r_mv rfl) rfl (wnt0 rfl) ?_
          refine Sx.sv (r_mv rfl) rfl (wnt1 (dj := 103) (b0 := false) rfl rfl rfl rfl (decide_eq_false (by decide)) rfl) ?_
          refine Sx.sv (r_fa fo47_1 rfl) rfl (wnt1 (dj := 103) (b0 := false) rfl rfl rfl rfl (decide_eq_false (by decide)) rfl) ?_
          refine Sx.sv (r_ld ty3 rfl (x18.seg) rfl) rfl (wnt1 (dj := 103) (b0 := false) rfl rfl rfl rfl (decide_eq_false (by decide)) rfl) ?_
          refine Sx.sv (r_gt rfl rfl) rfl (wnt1 (dj := 103) (b0 := false) rfl rfl rfl rfl (decide_eq_false (by decide)) rfl) ?_
          refine Sx.sv (r_pkF rfl (decide_eq_false (by decide)) rfl) rfl (wnt0 rfl) ?_
          refine wnil ?_
          refine Sx.nT ?_
          refine Sx.cf rfl (decide_eq_false (by omega)) ?_
          refine wp_skip ?_
          refine Sx.nB ?_
          refine Sx.nT ?_
          refine Sx.reg ?_
          refine Sx.sv (r_add rfl rfl (by omega) (by omega)) rfl (wnt0 rfl) ?_
          refine Sx.sv (r_mv rfl) rfl (wnt0 rfl) ?_
          refine wnil ?_
          refine Sx.nT ?_
          exact Sx.lpe (k + 1) ⟨rfl, rfl, rfl, rfl, rfl, rfl, rfl, rfl, trivial⟩ ⟨E22, ht, hlt2⟩ (show _ - (k + 1) < _ - k by omega)
        · refine Sx.cf rfl (decide_eq_false (by omega)) ?_
          refine wp_exit ?_
          refine Sx.eT ?_
          refine Sx.eT ?_
          refine Sx.eB ?_
          refine Sx.nB ?_
          refine Sx.nT ?_
          refine Sx.reg ?_
          refine Sx.sv (r_mv rfl) rfl (wnt0 rfl) ?_
          refine Sx.sv (r_add rfl rfl (by omega) (by omega)) rfl (wnt0 rfl) ?_
          refine Sx.sv (r_as rfl) rfl (wnt0 rfl) ?_
          refine wnil ?_
          refine Sx.nT ?_
          exact Sx.lpe (c + 1) ⟨rfl, rfl, rfl, rfl, trivial⟩ ⟨E7, ht, hlt⟩ (show n - (c + 1) < n - c by omega)
    · refine Sx.cf rfl (decide_eq_false (by omega)) ?_
      refine wp_exit ?_
      refine Sx.eT ?_
      refine Sx.eT ?_
      refine Sx.eB ?_
      refine Sx.nT ?_
      refine Sx.seq ?_
      refine Sx.reg ?_
      have tq24_ht := tape_lt ht
      refine Sx.sc (r_call en8 rfl) rfl (wnt0 rfl) (awake_any _ hT) ?_
      rintro e w24 ⟨rfl, hb24⟩
      refine ⟨_, rfl, ?_⟩
      have r24 := Rel.of0 hb24
      replace hT := hT.nw r24
      replace ht := tape_rel ht r24 (fun _ _ h => h)
      replace HX := HX.nw r24
      replace x4 := x4.nw r24
      replace HW := HW.nw r24
      replace E := E.then r24 (fun _ _ h => h.elim)
      refine Sx.sv (r_as rfl) rfl (wnt0 rfl) ?_
      refine wnil ?_
      refine Sx.nT ?_
      refine wp_ret ?_
      exact Sx.ret1 Tryd.results5 rfl ⟨rfl, E.toB0⟩

/-! ### THE ROW's STEP: WRITTEN OUT: LEAVE IT -/
set_option maxRecDepth 100000 in
theorem lifted (os : Os) (started : os.Started) (H : Type) (enc : TypeId × Value → H) :
    ReturnsInHanded {} Tryd.checked os 5 .any (fun w args => (Rows.severityPartsSpec.pre enc Tryd.prog Tryd.f5 [] false w args ∧ laidMetH Tryd.prog laidL w) ∧ sizedMet enc Tryd.prog Tryd.f5 (OpenSpec.ofChange Rows.severityPartsSpec) false w args) (Rows.severityPartsSpec.post enc Tryd.prog Tryd.f5 false true false false) := by
  refine returnsInHanded_of_change_and (C := Tryd.checked) (X := fun w _ => laidMetH Tryd.prog laidL w) (fun _ _ _ hh h => h.of_heap hh) own started (by kernel_rfl) Tryd.func5
    (ChangeSpec.witness_shaped (enc := enc) (C := Tryd.checked) (os := os) (X := fun w _ => laidMetH Tryd.prog laidL w) false (World.doorLaid Tryd.prog 400 os) #[.slice none 0 0] 8 rfl (World.shaped_of_RefB (by kernel_rfl) (by kernel_rfl)) (by kernel_rfl) (by kernel_rfl) (by kernel_rfl) (door_met os _)) ?_
  intro W base args ds gs before hval0 hW _ _ hL _
  have hval : ∀ (j : Nat) t v, Tryd.f5.params[j]? = some t → args[j]? = some v → Value.okWide Tryd.prog W .any base t v := hval0
  have hW' := hW
  obtain ⟨p, q, hA0, hV, rfl, hfz, hnd⟩ := hW
  have hA : DataW.TrodAll enc Tryd.prog W 0 (fun _ => true) true Tryd.f5.params.toList args.toList ds p := hA0
  rw [Tryd.params5] at hA hval
  obtain ⟨v0, vs0, d0, ds0, p0, q0, hargs, rfl, rfl, h0, r0⟩ := trodAll_cons hA
  obtain ⟨rfl, rfl, rfl⟩ := trodAll_nil r0
  obtain rfl : args = #[v0] := by cases args; simp_all
  obtain ⟨rfl, rfl⟩ := trodVars_none hV
  obtain ⟨a0, len0, cap0, rfl⟩ := okWide_slice Tryd.underlying22 (hval 0 22 v0 rfl rfl)
  have k0 := h0
  have lt0 : ∀ x ∈ p0, x.block < W.heap.size := by obtain ⟨m, hm⟩ := k0; exact DataW.trod_lt m _ _ _ hm
  obtain ⟨z0, w0⟩ : ∃ zs, IsRow .i64 W a0 len0 cap0 zs := by
    obtain ⟨fuel, hf⟩ := h0
    rcases open_ints Tryd.underlying22 Tryd.underlying3 (by kernel_rfl) hf with ⟨hcs, _⟩ | ⟨x, l, c, zs, hcs, _, hl, hm, hz, _, hcell, hwz⟩
    · simp [Value.cells] at hcs
      obtain ⟨rfl, rfl, rfl⟩ := hcs
      exact ⟨[], .inl ⟨rfl, rfl, rfl, rfl⟩⟩
    · simp [Value.cells] at hcs
      obtain ⟨rfl, rfl, rfl⟩ := hcs
      exact ⟨zs, .inr ⟨_, rfl, hl, hm, by simpa using hz, hcell, hwz⟩⟩
  clear hA0 hval0
  refine (walk a0 len0 cap0 z0 W w0 (tb_of hL)).mono fun e W' ⟨he, bel⟩ => ?_
  subst he
  exact ⟨_, rfl, _, _, _, [], _, [], hW', trodAll_mk1 (shut_bool Tryd.underlying4 _), (trodAll_cons_mk (Below.trod laidOut (by kernel_rfl) (of_decide_eq_true (by kernel_rfl)) k0 bel lt0) trodAll_mk0), rfl, bel.frame _, fun h => by cases h⟩

theorem over : Rows.severityPartsRow.holds Tryd.pinned (OpenSpec.ofChange Rows.severityPartsSpec) :=
  OpenClaim.holds_of_wide 5 Tryd.f5 rfl rfl rfl rfl rfl rfl rfl ⟨rfl, rfl, rfl, rfl, rfl⟩ rfl rfl rfl rfl rfl (by kernel_rfl) Tryd.func5 (by kernel_rfl)
    (of_decide_eq_true (by kernel_rfl)) (by unfold Func.isWrapper; first | (rw [if_pos (by decide +kernel)]; kernel_rfl) | (rw [if_neg (by decide +kernel)]; exact ⟨rfl, rfl⟩))
    (fun os started H enc _ => lifted os started H enc)

/-- ████ THE STATEMENT ████ -/
theorem proved : Rows.SeverityPartsSaid := over
#print axioms proved

/-- ████ THE TIED CARD ████ -/
theorem card : Rows.SeverityPartsCardSaid :=
  Claim7.holds_tied_plain_at .later [] [.data] true (true, "ad4c5ca6948ed5b51ad57fd7c7d256d481063a317f6ff24e3cac6c2ca41a9d77") false
    proved (fun _ h => by cases h) (by kernel_rfl) (fun _ h => by cases h) severityParts_row_tie rfl ⟨rfl, rfl⟩ (by kernel_rfl) rfl
    (fun f fn hf hfn => by
      obtain rfl : f = 5 := Option.some.inj ((show Tryd.prog.funcNamed "leakresponse/leakresponselaw31.SeverityParts" = some 5 by kernel_rfl).symm.trans hf) |>.symm
      obtain rfl : fn = Tryd.f5 := (Option.some.inj (Tryd.func5.symm.trans hfn)).symm
      exact ⟨by kernel_rfl, fun j t ht => by
        rw [Tryd.params5] at ht
        have hm : t ∈ [22] := by simpa using Array.mem_of_getElem? ht
        have hall : ([22].all fun u => !Tryd.prog.wantsStandIn u) = true := by kernel_rfl
        exact (show Tryd.prog.wantsStandIn t = false by simpa using List.all_eq_true.1 hall t hm)⟩)
    (by kernel_rfl)
#print axioms card
end Go.Proofs.YtahggnlmabdbbaaDoor.severityParts
