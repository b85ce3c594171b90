/-
  The Go function leakresponse/leakresponselaw31.SeverityGrows returns true for every input, and leaves what was there as it was; the bounds of the levels lie as the program's text lays them. More rights, greater worths and more readers never make a severity less.
-/
import Derived.Test.YtahggnlmabdbbaaDoorSvE
import Derived.Test.YtahggnlmabdbbaaDoorRows
import Derived.Test.YtahggnlmabdbbaaDoorCards
import Derived.Test.YtahggnlmabdbbaaDoorTie
import Derived.SevenTiedAt
namespace Go.Proofs.YtahggnlmabdbbaaDoor.severityGrows
open Go.ChangeShapes Go.WideShapes Go.ChangeAt Go.RowKit Go.Shelf Go.Maps
open Go.ChangeMaps (open_string shut_string)
open Go.Proofs.YtahggnlmabdbbaaDoor.Tp
open Go.Proofs.YtahggnlmabdbbaaDoor.Di
open Go.Proofs.YtahggnlmabdbbaaDoor.Sx
set_option linter.unusedVariables false

set_option maxRecDepth 100000 in
set_option maxHeartbeats 16000000 in
theorem walk (a0 : Option Addr) (len0 cap0 : Nat) (z0 : List Int) (w : World) (w0 : IsRow .i64 w a0 len0 cap0 z0) (hT : Me w 0 0 TB) :
    Calls Tryd.prog 4 #[.slice a0 len0 cap0] w fun e w' => e = .returned (.bool true) ∧ Below w.heap.size w w' := by
  have hm0 := w0.at_.1
  unfold maxLen at hm0
  have E : Rel (fun x => w.heap.size ≤ x) w w := Rel.refl _ _
  refine Sx.enter Tryd.func4 rfl Tryd.ntmps4 rfl (fun fr => ?_)
  refine Sx.seq ?_
  refine Sx.reg ?_
  refine Sx.sv (r_as rfl) rfl (wnt0 rfl) ?_
  refine wnil ?_
  refine Sx.nT ?_
  refine Sx.seq ?_
  refine Sx.seq ?_
  refine Sx.reg ?_
  refine Sx.sv (r_mv rfl) rfl (wnt0 rfl) ?_
  refine Sx.sv (r_ln Tryd.underlying22 rfl) rfl (wnt0 rfl) ?_
  refine Sx.sv (r_gt rfl rfl) rfl (wnt0 rfl) ?_
  refine wnil ?_
  refine Sx.nT ?_
  by_cases hlen : 300 < len0
  · refine Sx.ct rfl (decide_eq_true (by omega)) ?_
    refine Sx.seq ?_
    refine Sx.reg ?_
    refine Sx.sc (r_call en8 rfl) rfl (wnt0 rfl) (awake_any _ hT) ?_
    rintro e w1 ⟨rfl, hb1⟩
    refine ⟨_, rfl, ?_⟩
    have r1 := Rel.of0 hb1
    replace hT := hT.nw r1
    replace E := E.then r1 (fun _ _ h => h.elim)
    refine Sx.sv (r_as rfl) rfl (wnt0 rfl) ?_
    refine wnil ?_
    refine Sx.nT ?_
    refine wp_ret ?_
    refine Sx.rT ?_
    exact Sx.ret1 Tryd.results4 rfl ⟨rfl, E.toB0⟩
  · skip
    refine Sx.cf rfl (decide_eq_false (by omega)) ?_
    refine wp_skip ?_
    refine Sx.nT ?_
    refine Sx.seq ?_
    refine Sx.reg ?_
    refine Sx.sv (r_mv rfl) rfl (wnt0 rfl) ?_
    refine Sx.sv (r_bld rfl (bd32_0 _ _ _)) rfl (wnt0 rfl) ?_
    refine Sx.sy (y_box rfl rfl) rfl (wnt0 rfl) ?_
    rintro _ w2 ⟨b2, rfl, n2, x2⟩
    have l2_hT : 0 < b2 := Nat.lt_of_lt_of_le hT.lt n2.ge
    have g2 : w.heap.size ≤ b2 := Nat.le_trans E.size n2.ge
    replace hT := hT.nw n2.r
    replace E := E.then n2.r (fun _ _ h => h.elim)
    refine Sx.sv (r_as rfl) rfl (wnt0 rfl) ?_
    refine wnil ?_
    refine Sx.nT ?_
    refine Sx.seq ?_
    refine Sx.reg ?_
    refine Sx.sv (r_mv rfl) rfl (wnt0 rfl) ?_
    have ht := tape_of w0 n2 x2
    have lT := x2.lt
    have tq3_ht := tape_lt ht
    refine Sx.sc (r_call en9 rfl) rfl (wnt0 rfl) (rights_any b2 _ ht lT) ?_
    rintro e w3 ⟨x, v, rfl, hmk, hrl, hg3, ht3⟩
    refine ⟨_, rfl, ?_⟩
    have r3 := Rel.ofT hg3
    replace hT := hT.ch r3 (by omega)
    replace E := E.then r3 (fun x hx (e : x = b2) => show w.heap.size ≤ x by omega)
    replace ht := ht3
    have HX := Has.rl hrl
    have hW1 := r3.size
    have hok := hmk.ok
    have hc1 := hmk.c1
    have hc6 := hmk.c6
    have hk1 := hmk.k1
    have hk5 := hmk.k5
    have hg7 := hmk.g7
    have hs4 := hmk.s4
    have hm3 := hmk.m3
    have hsz : szs x := ⟨by omega, by omega, by omega⟩
    obtain ⟨kn, hkn⟩ : ∃ kn : Nat, x.k = (kn : Int) := ⟨x.k.toNat, by omega⟩
    refine Sx.sy (y_all zi27 rfl) rfl (wnt0 rfl) ?_
    rintro _ w4 ⟨b4, rfl, n4, x4⟩
    have l4_hT : 0 < b4 := Nat.lt_of_lt_of_le hT.lt n4.ge
    have l4_ht : b2 < b4 := Nat.lt_of_lt_of_le (tape_lt ht) n4.ge
    have l4_HX : w3.heap.size ≤ b4 := Nat.le_trans HX.le n4.ge
    have g4 : w.heap.size ≤ b4 := Nat.le_trans E.size n4.ge
    replace hT := hT.nw n4.r
    replace ht := tape_rel ht n4.r (fun _ _ h => h)
    replace HX := HX.nw n4.r
    replace E := E.then n4.r (fun _ _ h => h.elim)
    refine Sx.syu (u_stR ty27 rfl rfl rfl x4 rfl rfl) rfl (wnt0 rfl) ?_
    rintro w5 ⟨r5, z5, x5n⟩
    replace hT := hT.ch r5 (by omega)
    replace ht := tape_rel ht r5 (fun b hb (e : b = b4) => by omega)
    replace HX := HX.ch r5 (by omega)
    replace E := E.then r5 (fun x hx (e : x = b4) => show w.heap.size ≤ x by omega)
    replace x4 := x5n; clear x5n
    refine wnil ?_
    refine Sx.nT ?_
    refine Sx.seq ?_
    refine Sx.reg ?_
    refine Sx.sv (r_mv rfl) rfl (wnt0 rfl) ?_
    refine Sx.sv (r_fa fo27_1 rfl) rfl (wnt0 rfl) ?_
    refine Sx.sv (r_ld ty3 rfl (x4.seg) rfl) rfl (wnt0 rfl) ?_
    have tq6_ht := tape_lt ht
    refine Sx.sc (r_call en10 rfl) rfl (wnt0 rfl) ((by rw [hkn]; exact worths_any b2 kn _ ht (tape_lt ht) (by omega))) ?_
    rintro e w6 ⟨ws, Aw, cw, rfl, hwl, hwb, hwo, hg6, ht6⟩
    refine ⟨_, rfl, ?_⟩
    have r6 := Rel.ofT hg6
    replace hT := hT.ch r6 (by omega)
    replace HX := HX.ch r6 (by omega)
    replace x4 := x4.ch r6 (by omega)
    replace E := E.then r6 (fun x hx (e : x = b2) => show w.heap.size ≤ x by omega)
    replace ht := ht6
    have HW := Has.row (row_of_own hwo)
    have hwn : (ws.length : Int) = x.k := by omega
    have hws : ∀ j, j < ws.length → 0 ≤ e0 ws j ∧ e0 ws j ≤ 100 := fun j hj => hwb _ (e0_mem hj)
    refine Sx.sv (r_as rfl) rfl (wnt0 rfl) ?_
    refine wnil ?_
    refine Sx.nT ?_
    refine Sx.seq ?_
    refine Sx.reg ?_
    refine Sx.sv (r_mv rfl) rfl (wnt0 rfl) ?_
    refine Sx.sv (r_fa fo27_0 rfl) rfl (wnt0 rfl) ?_
    refine Sx.sv (r_ld ty3 rfl (x4.seg) rfl) rfl (wnt0 rfl) ?_
    have tq7_ht := tape_lt ht
    refine Sx.sc (r_call en11 rfl) rfl (wnt0 rfl) (next_any b2 x.c _ ht (by omega) (by omega)) ?_
    rintro e w7 ⟨z7, p7, q7, rfl, hg7, ht7⟩
    refine ⟨_, rfl, ?_⟩
    have r7 := Rel.ofT hg7
    replace hT := hT.ch r7 (by omega)
    replace HX := HX.ch r7 (by omega)
    replace x4 := x4.ch r7 (by omega)
    replace HW := HW.ch r7 (by omega)
    replace E := E.then r7 (fun x hx (e : x = b2) => show w.heap.size ≤ x by omega)
    replace ht := ht7
    refine Sx.sv (r_mv rfl) rfl (wnt0 rfl) ?_
    have tq8_ht := tape_lt ht
    refine Sx.sc (r_call en11 rfl) rfl (wnt0 rfl) (next_any b2 20 _ ht (by omega) (by omega)) ?_
    rintro e w8 ⟨z8, p8, q8, rfl, hg8, ht8⟩
    refine ⟨_, rfl, ?_⟩
    have r8 := Rel.ofT hg8
    replace hT := hT.ch r8 (by omega)
    replace HX := HX.ch r8 (by omega)
    replace x4 := x4.ch r8 (by omega)
    replace HW := HW.ch r8 (by omega)
    replace E := E.then r8 (fun x hx (e : x = b2) => show w.heap.size ≤ x by omega)
    replace ht := ht8
    refine Sx.sv (r_as rfl) rfl (wnt0 rfl) ?_
    refine Sx.sv (r_as rfl) rfl (wnt0 rfl) ?_
    refine wnil ?_
    refine Sx.nT ?_
    refine Sx.seq ?_
    refine Sx.reg ?_
    refine Sx.sv (r_ldr ty27 rfl (x4.seg) rfl) rfl (wnt0 rfl) ?_
    refine Sx.sy (y_all zi27 rfl) rfl (wnt0 rfl) ?_
    rintro _ w9 ⟨b9, rfl, n9, x9⟩
    have l9_hT : 0 < b9 := Nat.lt_of_lt_of_le hT.lt n9.ge
    have l9_ht : b2 < b9 := Nat.lt_of_lt_of_le (tape_lt ht) n9.ge
    have l9_HX : w3.heap.size ≤ b9 := Nat.le_trans HX.le n9.ge
    have l9_x4 : b4 < b9 := Nat.lt_of_lt_of_le x4.lt n9.ge
    have l9_HW : w6.heap.size ≤ b9 := Nat.le_trans HW.le n9.ge
    have g9 : w.heap.size ≤ b9 := Nat.le_trans E.size n9.ge
    replace hT := hT.nw n9.r
    replace ht := tape_rel ht n9.r (fun _ _ h => h)
    replace HX := HX.nw n9.r
    replace x4 := x4.nw n9.r
    replace HW := HW.nw n9.r
    replace E := E.then n9.r (fun _ _ h => h.elim)
    refine Sx.syu (u_stR ty27 rfl rfl rfl x9 rfl rfl) rfl (wnt0 rfl) ?_
    rintro w10 ⟨r10, z10, x10n⟩
    replace hT := hT.ch r10 (by omega)
    replace ht := tape_rel ht r10 (fun b hb (e : b = b9) => by omega)
    replace HX := HX.ch r10 (by omega)
    replace x4 := x4.ch r10 (by omega)
    replace HW := HW.ch r10 (by omega)
    replace E := E.then r10 (fun x hx (e : x = b9) => show w.heap.size ≤ x by omega)
    replace x9 := x10n; clear x10n
    refine wnil ?_
    refine Sx.nT ?_
    refine Sx.seq ?_
    have t11_hT := hT.lt
    have t11_HX := HX.le
    have t11_x4 := x4.lt
    have t11_HW := HW.le
    have t11_x9 := x9.lt
    have E11 : Rel (fun x => x = b2 ∨ x = b9 ∨ w10.heap.size ≤ x) w10 w10 := Rel.refl _ _
    refine Sx.cutR (Rt × Vr) (fun ⟨m, vm⟩ => [(3, .pointer (some ⟨b2, 0, none⟩)), (4, .pointer (some ⟨b4, 0, none⟩)), (8, .pointer (some ⟨b9, 0, none⟩)), (5, .slice Aw ws.length cw), (6, .int .i64 z7), (7, .int .i64 z8)]) (fun ⟨m, vm⟩ wr => Rel (fun x => x = b2 ∨ x = b9 ∨ w10.heap.size ≤ x) w10 wr ∧ TapeOk wr b2 ∧ Bx wr b9 [.int .i64 m.c, .int .i64 m.k, .slice vm.A1 m.g.length vm.c1, .slice vm.A2 m.s.length vm.c2, .slice vm.A3 m.m.length vm.c3] 27 ∧ RL wr w2.heap.size m vm ∧ Ext x m ∧ Rok m) ?_ ?_
    · refine Sx.drg 17 (fun w12 wv => Rel (fun x => x = b2 ∨ w12.heap.size ≤ x) w12 wv ∧ TapeOk wv b2) mx (fun w12 hd => ?_)
      replace hT := hT.nw hd
      replace ht := tape_rel ht hd (fun _ _ h => h)
      replace HX := HX.nw hd
      replace x4 := x4.nw hd
      replace HW := HW.nw hd
      replace x9 := x9.nw hd
      replace E := E.then hd (fun _ _ h => h.elim)
      replace E11 := E11.then hd (fun _ _ h => h.elim)
      have sd12_E := E.size
      have sd12_E11 := E11.size
      have q_hT := hT.lt
      have q_HX := HX.le
      have q_x4 := x4.lt
      have q_HW := HW.le
      have q_x9 := x9.lt
      have d_hT := hT
      have d_HX := HX
      have d_x4 := x4
      have d_HW := HW
      have d_x9 := x9
      have hS : Rel (fun x => x = b2 ∨ w12.heap.size ≤ x) w12 w12 ∧ TapeOk w12 b2 := ⟨Rel.refl _ _, ht⟩
      have lTd : b2 < w12.heap.size := tape_lt ht
      have lMd : b9 < w12.heap.size := x9.lt
      refine Sx.dt (i := 0) rfl (by kernel_rfl) (by kernel_rfl) (by kernel_rfl) (by kernel_rfl) (fun _ _ _ _ h => h) rfl (wnt0 rfl) (fun wv h2 => r_fa fo27_2 rfl) hS ?_
      refine Sx.dt (i := 3) rfl (by kernel_rfl) (by kernel_rfl) (by kernel_rfl) (by kernel_rfl) (fun _ _ _ _ h => h) rfl (wnt0 rfl) (fun wv h2 => r_mv rfl) hS ?_
      refine Sx.dt (i := 4) rfl (by kernel_rfl) (by kernel_rfl) (by kernel_rfl) (by kernel_rfl) (fun _ _ _ _ h => h) rfl (wnt0 rfl) (fun wv h2 => r_fa fo27_0 rfl) hS ?_
      refine Sx.dt (i := 7) rfl (by kernel_rfl) (by kernel_rfl) (by kernel_rfl) (by kernel_rfl) (fun _ _ _ _ h => h) rfl (wnt0 rfl) (fun wv h2 => r_mv rfl) hS ?_
      refine Sx.dt (i := 8) rfl (by kernel_rfl) (by kernel_rfl) (by kernel_rfl) (by kernel_rfl) (fun _ _ _ _ h => h) rfl (wnt0 rfl) (fun wv h2 => r_fa fo27_1 rfl) hS ?_
      refine Sx.dt (i := 11) rfl (by kernel_rfl) (by kernel_rfl) (by kernel_rfl) (by kernel_rfl) (fun _ _ _ _ h => h) rfl (wnt0 rfl) (fun wv h2 => r_mv rfl) hS ?_
      refine Sx.dt (i := 1) rfl (by kernel_rfl) (by kernel_rfl) (by kernel_rfl) (by kernel_rfl) (fun _ _ _ _ h => h) rfl (wnt0 rfl) (fun wv h2 => r_ld ty23 rfl ((d_x4.rel h2.1 (show ¬ (b4 = b2 ∨ w12.heap.size ≤ b4) from not_or.2 ⟨by omega, by omega⟩)).seg) rfl) hS ?_
      refine Sx.dt (i := 5) rfl (by kernel_rfl) (by kernel_rfl) (by kernel_rfl) (by kernel_rfl) (fun _ _ _ _ h => h) rfl (wnt0 rfl) (fun wv h2 => r_ld ty3 rfl ((d_x4.rel h2.1 (show ¬ (b4 = b2 ∨ w12.heap.size ≤ b4) from not_or.2 ⟨by omega, by omega⟩)).seg) rfl) hS ?_
      refine Sx.dt (i := 9) rfl (by kernel_rfl) (by kernel_rfl) (by kernel_rfl) (by kernel_rfl) (fun _ _ _ _ h => h) rfl (wnt0 rfl) (fun wv h2 => r_ld ty3 rfl ((d_x4.rel h2.1 (show ¬ (b4 = b2 ∨ w12.heap.size ≤ b4) from not_or.2 ⟨by omega, by omega⟩)).seg) rfl) hS ?_
      refine Sx.da1 (i := 2) (by kernel_rfl) ?_
      refine Sx.wy rfl (wnt0 rfl) (y_app2 (base := w12.heap.size) Tryd.underlying23 zi54 rfl (by decide) (by decide) rfl rfl (Sx.own_nil _ _ _ _) (HX.ok.r1) (v3_one _) (by omega) (by have := hS.1.size; omega)) rfl ?_
      rintro _ w13 ⟨A13, c13, rfl, o13, r13, a13⟩
      replace r13 : Rel NoC _ _ := r13.mono (fun x hx h => by cases h)
      replace hT := hT.nw r13
      replace ht := tape_rel ht r13 (fun _ _ h => h)
      replace HX := HX.nw r13
      replace x4 := x4.nw r13
      replace HW := HW.nw r13
      replace x9 := x9.nw r13
      replace E := E.then r13 (fun _ _ h => h.elim)
      replace E11 := E11.then r13 (fun _ _ h => h.elim)
      replace hS : Rel (fun x => x = b2 ∨ w12.heap.size ≤ x) w12 w13 ∧ TapeOk w13 b2 := ⟨hS.1.then r13 (fun _ _ h => h.elim), ht⟩
      refine ⟨.inr hS, ?_⟩
      have own := o13
      clear o13
      have tq14_ht := tape_lt ht
      refine Sx.da1 (i := 6) (by kernel_rfl) ?_
      refine Sx.wc rfl (wnt0 rfl) rfl (r_call en11 rfl) (next_any b2 x.c _ ht (by omega) (by omega)) ?_
      rintro e w14 ⟨z14, p14, q14, rfl, hg14, ht14⟩
      have r14 := Rel.ofT hg14
      replace hT := hT.ch r14 (by omega)
      replace HX := HX.ch r14 (by omega)
      replace x4 := x4.ch r14 (by omega)
      replace HW := HW.ch r14 (by omega)
      replace x9 := x9.ch r14 (by omega)
      replace own := own_rel own r14 (fun q hq (e : q = b2) => by subst e; first | exact absurd hq.symm (by assumption) | exact own_not own (by assumption) (by decide) hq.symm | exact own_far own (by omega) hq.symm)
      replace E := E.then r14 (fun x hx (e : x = b2) => show w.heap.size ≤ x by omega)
      replace E11 := E11.then r14 (fun x hx (e : x = b2) => show x = b2 ∨ x = b9 ∨ w10.heap.size ≤ x by omega)
      replace ht := ht14
      replace hS : Rel (fun x => x = b2 ∨ w12.heap.size ≤ x) w12 w14 ∧ TapeOk w14 b2 := ⟨hS.1.then r14 (fun x hx (e : x = b2) => show x = b2 ∨ w12.heap.size ≤ x by omega), ht⟩
      refine ⟨_, rfl, .inr hS, ?_⟩
      have tq15_ht := tape_lt ht
      refine Sx.da1 (i := 10) (by kernel_rfl) ?_
      refine Sx.wc rfl (wnt0 rfl) rfl (r_call en11 rfl) (next_any b2 x.k _ ht (by omega) (by omega)) ?_
      rintro e w15 ⟨z15, p15, q15, rfl, hg15, ht15⟩
      have r15 := Rel.ofT hg15
      replace hT := hT.ch r15 (by omega)
      replace HX := HX.ch r15 (by omega)
      replace x4 := x4.ch r15 (by omega)
      replace HW := HW.ch r15 (by omega)
      replace x9 := x9.ch r15 (by omega)
      replace own := own_rel own r15 (fun q hq (e : q = b2) => by subst e; first | exact absurd hq.symm (by assumption) | exact own_not own (by assumption) (by decide) hq.symm | exact own_far own (by omega) hq.symm)
      replace E := E.then r15 (fun x hx (e : x = b2) => show w.heap.size ≤ x by omega)
      replace E11 := E11.then r15 (fun x hx (e : x = b2) => show x = b2 ∨ x = b9 ∨ w10.heap.size ≤ x by omega)
      replace ht := ht15
      replace hS : Rel (fun x => x = b2 ∨ w12.heap.size ≤ x) w12 w15 ∧ TapeOk w15 b2 := ⟨hS.1.then r15 (fun x hx (e : x = b2) => show x = b2 ∨ w12.heap.size ≤ x by omega), ht⟩
      refine ⟨_, rfl, .inr hS, ?_⟩
      have tq16_ht := tape_lt ht
      refine Sx.da1 (i := 12) (by kernel_rfl) ?_
      refine Sx.wc rfl (wnt0 rfl) rfl (r_call en15 rfl) (between_any b2 1 3 _ ht (by omega) (by omega) (by omega) (by omega)) ?_
      rintro e w16 ⟨z16, p16, q16, rfl, hg16, ht16⟩
      have r16 := Rel.ofT hg16
      replace hT := hT.ch r16 (by omega)
      replace HX := HX.ch r16 (by omega)
      replace x4 := x4.ch r16 (by omega)
      replace HW := HW.ch r16 (by omega)
      replace x9 := x9.ch r16 (by omega)
      replace own := own_rel own r16 (fun q hq (e : q = b2) => by subst e; first | exact absurd hq.symm (by assumption) | exact own_not own (by assumption) (by decide) hq.symm | exact own_far own (by omega) hq.symm)
      replace E := E.then r16 (fun x hx (e : x = b2) => show w.heap.size ≤ x by omega)
      replace E11 := E11.then r16 (fun x hx (e : x = b2) => show x = b2 ∨ x = b9 ∨ w10.heap.size ≤ x by omega)
      replace ht := ht16
      replace hS : Rel (fun x => x = b2 ∨ w12.heap.size ≤ x) w12 w16 ∧ TapeOk w16 b2 := ⟨hS.1.then r16 (fun x hx (e : x = b2) => show x = b2 ∨ w12.heap.size ≤ x by omega), ht⟩
      refine ⟨_, rfl, .inr hS, ?_⟩
      refine Sx.dt (i := 13) rfl (by kernel_rfl) (by kernel_rfl) (by kernel_rfl) (by kernel_rfl) (fun _ _ _ _ h => h) rfl (wnt0 rfl) (fun wv h2 => r_bld rfl (bd54_0_1_2 _ _ _)) hS ?_
      refine Sx.da1 (i := 14) (by kernel_rfl) ?_
      refine Sx.wy rfl (wnt0 rfl) (y_bs rfl (bs23_1 _ _ _)) rfl ?_
      rintro _ w17 ⟨b17, rfl, n17, x17⟩
      have l17_hT : 0 < b17 := Nat.lt_of_lt_of_le hT.lt n17.ge
      have l17_ht : b2 < b17 := Nat.lt_of_lt_of_le (tape_lt ht) n17.ge
      have l17_HX : w3.heap.size ≤ b17 := Nat.le_trans HX.le n17.ge
      have l17_x4 : b4 < b17 := Nat.lt_of_lt_of_le x4.lt n17.ge
      have l17_HW : w6.heap.size ≤ b17 := Nat.le_trans HW.le n17.ge
      have l17_x9 : b9 < b17 := Nat.lt_of_lt_of_le x9.lt n17.ge
      have f17_own := fresh_own own n17.ge
      have g17 : w.heap.size ≤ b17 := Nat.le_trans E.size n17.ge
      have g17_E11 : w10.heap.size ≤ b17 := Nat.le_trans E11.size n17.ge
      replace hT := hT.nw n17.r
      replace ht := tape_rel ht n17.r (fun _ _ h => h)
      replace HX := HX.nw n17.r
      replace x4 := x4.nw n17.r
      replace HW := HW.nw n17.r
      replace x9 := x9.nw n17.r
      replace own := own_nw own n17.r
      replace E := E.then n17.r (fun _ _ h => h.elim)
      replace E11 := E11.then n17.r (fun _ _ h => h.elim)
      have q_x17 := x17.lt
      replace hS : Rel (fun x => x = b2 ∨ w12.heap.size ≤ x) w12 w17 ∧ TapeOk w17 b2 := ⟨hS.1.then n17.r (fun _ _ h => h.elim), ht⟩
      refine ⟨.inr hS, ?_⟩
      refine Sx.da1 (i := 15) (by kernel_rfl) ?_
      refine Sx.wy rfl (wnt0 rfl) (y_app Tryd.underlying23 zi54 rfl (by decide) (by decide) rfl rfl own x17 rfl rfl (by omega) (by have := hS.1.size; have := E.size; omega)) rfl ?_
      rintro _ w18 ⟨A18, c18, rfl, o18, r18, a18⟩
      replace hT := hT.rel r18 (by first | assumption | exact own_far own (by omega))
      replace ht := tape_rel ht r18 (fun b hb e => by have := own_ge own e; omega)
      replace HX := HX.rel r18 (fun b h1 h2 e => by have := own_ge own e; omega)
      replace x4 := x4.rel r18 (by first | assumption | exact own_not own x4 (by decide) | exact own_far own (by omega))
      replace HW := HW.rel r18 (fun b h1 h2 e => by have := own_ge own e; omega)
      replace x9 := x9.rel r18 (by first | assumption | exact own_not own x9 (by decide) | exact own_far own (by omega))
      replace x17 := x17.rel r18 (by first | assumption | exact own_not own x17 (by decide) | exact own_far own (by omega))
      replace E := E.then r18 (fun x hx e => show w.heap.size ≤ x by have := own_ge own e; omega)
      replace E11 := E11.then r18 (fun x hx e => show x = b2 ∨ x = b9 ∨ w10.heap.size ≤ x by have := own_ge own e; omega)
      replace hS : Rel (fun x => x = b2 ∨ w12.heap.size ≤ x) w12 w18 ∧ TapeOk w18 b2 := ⟨hS.1.then r18 (fun x hx e => show x = b2 ∨ w12.heap.size ≤ x by have := own_ge own e; omega), ht⟩
      replace own := o18; clear o18
      refine ⟨.inr hS, ?_⟩
      refine Sx.dt (i := 16) rfl (by kernel_rfl) (by kernel_rfl) (by kernel_rfl) (by kernel_rfl) (fun _ _ _ _ h => h) rfl (wnt0 rfl) (fun wv h2 => r_fa fo27_2 rfl) hS ?_
      refine Sx.da1 (i := 17) (by kernel_rfl) ?_
      refine Sx.wyu rfl (wnt0 rfl) (u_st sz23 rfl rfl rfl rfl x9 rfl) rfl ?_
      rintro w19 ⟨r19, z19, x19n⟩
      replace hT := hT.ch r19 (by omega)
      replace ht := tape_rel ht r19 (fun b hb (e : b = b9) => by omega)
      replace HX := HX.ch r19 (by omega)
      replace x4 := x4.ch r19 (by omega)
      replace HW := HW.ch r19 (by omega)
      replace own := own_rel own r19 (fun q hq (e : q = b9) => by subst e; first | exact absurd hq.symm (by assumption) | exact own_not own (by assumption) (by decide) hq.symm | exact own_far own (by omega) hq.symm)
      replace E := E.then r19 (fun x hx (e : x = b9) => show w.heap.size ≤ x by omega)
      replace E11 := E11.then r19 (fun x hx (e : x = b9) => show x = b2 ∨ x = b9 ∨ w10.heap.size ≤ x by omega)
      replace x9 := x19n; clear x19n
      refine ⟨.inl rfl, ?_⟩
      refine Sx.dz (by kernel_rfl) ?_
      clear hS d_hT d_HX d_x4 d_HW d_x9
      refine Sx.nT ?_
      have hle : (x.g ++ [(⟨z14, z15, z16⟩ : T3)]).length = 0 + x.g.length + 1 := by simp
      have hrow : Row w19 w2.heap.size 3 A18 (x.g ++ [(⟨z14, z15, z16⟩ : T3)]).length (v3 (x.g ++ [(⟨z14, z15, z16⟩ : T3)])) := by
        rw [hle, v3_snoc]
        have h9 := row_of_own own
        rw [List.nil_append] at h9
        exact h9.base (by have := HX.le; omega)
      have hxm : Bx w19 b9 [.int .i64 (⟨x.c, x.k, x.g ++ [(⟨z14, z15, z16⟩ : T3)], x.s, x.m⟩ : Rt).c, .int .i64 (⟨x.c, x.k, x.g ++ [(⟨z14, z15, z16⟩ : T3)], x.s, x.m⟩ : Rt).k, .slice (⟨A18, c18, v.A2, v.c2, v.A3, v.c3⟩ : Vr).A1 (⟨x.c, x.k, x.g ++ [(⟨z14, z15, z16⟩ : T3)], x.s, x.m⟩ : Rt).g.length (⟨A18, c18, v.A2, v.c2, v.A3, v.c3⟩ : Vr).c1, .slice (⟨A18, c18, v.A2, v.c2, v.A3, v.c3⟩ : Vr).A2 (⟨x.c, x.k, x.g ++ [(⟨z14, z15, z16⟩ : T3)], x.s, x.m⟩ : Rt).s.length (⟨A18, c18, v.A2, v.c2, v.A3, v.c3⟩ : Vr).c2, .slice (⟨A18, c18, v.A2, v.c2, v.A3, v.c3⟩ : Vr).A3 (⟨x.c, x.k, x.g ++ [(⟨z14, z15, z16⟩ : T3)], x.s, x.m⟩ : Rt).m.length (⟨A18, c18, v.A2, v.c2, v.A3, v.c3⟩ : Vr).c3] 27 := by
        show Bx _ _ [.int .i64 x.c, .int .i64 x.k, .slice A18 (x.g ++ [(⟨z14, z15, z16⟩ : T3)]).length c18, .slice v.A2 x.s.length v.c2, .slice v.A3 x.m.length v.c3] 27
        rw [hle]
        exact x9
      exact Sx.midE (⟨(⟨x.c, x.k, x.g ++ [(⟨z14, z15, z16⟩ : T3)], x.s, x.m⟩ : Rt), (⟨A18, c18, v.A2, v.c2, v.A3, v.c3⟩ : Vr)⟩) ⟨rfl, rfl, rfl, rfl, rfl, rfl, trivial⟩ ⟨E11, ht, hxm, ⟨hrow, HX.ok.r2, HX.ok.r3⟩, ⟨rfl, rfl, ⟨[(⟨z14, z15, z16⟩ : T3)], rfl⟩, ⟨[], (List.append_nil _).symm⟩, ⟨[], (List.append_nil _).symm⟩⟩, ok_of ⟨by show 0 ≤ x.c; omega, by show x.c ≤ 24; omega⟩ ⟨by show 0 ≤ x.k; omega, by show x.k ≤ 24; omega⟩ (by show List.length (x.g ++ [(⟨z14, z15, z16⟩ : T3)]) ≤ 100; rw [hle]; omega) (by show List.length x.s ≤ 100; omega) (by show List.length x.m ≤ 100; omega) (fun y hy => by rcases List.mem_append.1 hy with hy | hy; exact hmk.g y hy; rw [List.mem_singleton] at hy; subst hy; exact ⟨(show (0 : Int) ≤ z14 by omega), (show z14 < x.c by omega), (show (0 : Int) ≤ z15 by omega), (show z15 < x.k by omega), (show (1 : Int) ≤ z16 by omega), (show z16 ≤ 3 by omega)⟩) hmk.s hmk.m⟩
    · skip
      clear E11
      rintro ⟨m, vm⟩ fr w20 ⟨E11, htn, x9, hrm, hext, hokm⟩
      replace hT := hT.rel E11 (show ¬ (0 = b2 ∨ 0 = b9 ∨ w10.heap.size ≤ 0) by omega)
      replace ht := htn; clear htn
      replace HX := HX.rel E11 (fun x h1 h2 => show ¬ (x = b2 ∨ x = b9 ∨ w10.heap.size ≤ x) by omega)
      replace x4 := x4.rel E11 (show ¬ (b4 = b2 ∨ b4 = b9 ∨ w10.heap.size ≤ b4) by omega)
      replace HW := HW.rel E11 (fun x h1 h2 => show ¬ (x = b2 ∨ x = b9 ∨ w10.heap.size ≤ x) by omega)
      have s11_E := E.size
      replace E := E.then E11 (fun x hx (e : x = b2 ∨ x = b9 ∨ w10.heap.size ≤ x) => show w.heap.size ≤ x by omega)
      refine Sx.nT ?_
      show Code.wp _ _ _ (Fa fr [(3, .pointer (some ⟨b2, 0, none⟩)), (4, .pointer (some ⟨b4, 0, none⟩)), (8, .pointer (some ⟨b9, 0, none⟩)), (5, .slice Aw ws.length cw), (6, .int .i64 z7), (7, .int .i64 z8)]) _
      have HM := Has.rl hrm
      have hszm : szs m := ⟨by have := hokm.lg; omega, by have := hokm.ls; omega, by have := hokm.lm; omega⟩
      have hmc := hext.c
      have hmk2 := hext.k
      refine Sx.seq ?_
      refine Sx.reg ?_
      refine Sx.sv (r_mv rfl) rfl (wnt0 rfl) ?_
      have lTc : b2 < w20.heap.size := tape_lt ht
      have lMc : b9 < w20.heap.size := x9.lt
      have lBc : b4 < w20.heap.size := x4.lt
      have lXc := HX.le
      have lWc := HW.le
      have lMMc := HM.le
      refine Sx.sy (y_app2 (base := w20.heap.size) Tryd.underlying22 zi3 rfl (by decide) (by decide) rfl rfl (Sx.own_nil _ _ _ _) HW.ok (zv_one _) (by omega) (Nat.le_refl _)) rfl (wnt0 rfl) ?_
      rintro _ w21 ⟨A21, c21, rfl, o21, r21, a21⟩
      replace r21 : Rel NoC _ _ := r21.mono (fun x hx h => by cases h)
      replace hT := hT.nw r21
      replace ht := tape_rel ht r21 (fun _ _ h => h)
      replace HX := HX.nw r21
      replace x4 := x4.nw r21
      replace HW := HW.nw r21
      replace x9 := x9.nw r21
      replace HM := HM.nw r21
      replace E := E.then r21 (fun _ _ h => h.elim)
      rw [List.nil_append] at o21
      obtain ⟨g, lw, hA9, hg9, xw, hlw, htk⟩ := own_bx o21 (show 0 < 0 + ws.length by omega)
      subst hA9
      simp only [Nat.zero_add] at hlw htk
      refine Sx.sv (r_as rfl) rfl (wnt0 rfl) ?_
      refine wnil ?_
      refine Sx.nT ?_
      refine Sx.seq ?_
      refine Sx.reg ?_
      refine Sx.sv (r_mv rfl) rfl (wnt0 rfl) ?_
      refine Sx.sv (r_mv rfl) rfl (wnt0 rfl) ?_
      refine Sx.sv (r_ln Tryd.underlying22 rfl) rfl (wnt0 rfl) ?_
      have tq22_ht := tape_lt ht
      refine Sx.sc (r_call en11 rfl) rfl (wnt0 rfl) (next_any b2 (ws.length : Int) _ ht (by omega) (by omega)) ?_
      rintro e w22 ⟨z22, p22, q22, rfl, hg22, ht22⟩
      refine ⟨_, rfl, ?_⟩
      have r22 := Rel.ofT hg22
      replace hT := hT.ch r22 (by omega)
      replace HX := HX.ch r22 (by omega)
      replace x4 := x4.ch r22 (by omega)
      replace HW := HW.ch r22 (by omega)
      replace x9 := x9.ch r22 (by omega)
      replace HM := HM.ch r22 (by omega)
      replace xw := xw.ch r22 (by omega)
      replace E := E.then r22 (fun x hx (e : x = b2) => show w.heap.size ≤ x by omega)
      replace ht := ht22
      obtain ⟨kk, hkk⟩ : ∃ kk : Nat, z22 = (kk : Int) := ⟨z22.toNat, by omega⟩
      have hkl : kk < ws.length := by omega
      have hnk := nth_pre htk hkl
      have m1 : Me _ g (0 + kk) [_] := .one xw.lt (xw.seg kk _ ((nth_get _ _).symm.trans hnk))
      refine Sx.sv (r_as rfl) rfl (wnt0 rfl) ?_
      refine wnil ?_
      refine Sx.nT ?_
      refine Sx.seq ?_
      refine Sx.drg 11 (fun w23 wv => Rel (fun x => x = b2 ∨ w23.heap.size ≤ x) w23 wv ∧ TapeOk wv b2) mx (fun w23 hd => ?_)
      replace hT := hT.nw hd
      replace ht := tape_rel ht hd (fun _ _ h => h)
      replace HX := HX.nw hd
      replace x4 := x4.nw hd
      replace HW := HW.nw hd
      replace x9 := x9.nw hd
      replace HM := HM.nw hd
      replace xw := xw.nw hd
      replace m1 := m1.nw hd
      replace E := E.then hd (fun _ _ h => h.elim)
      have sd23_E := E.size
      have q_hT := hT.lt
      have q_HX := HX.le
      have q_x4 := x4.lt
      have q_HW := HW.le
      have q_x9 := x9.lt
      have q_HM := HM.le
      have q_xw := xw.lt
      have q_m1 := m1.lt
      have d_hT := hT
      have d_HX := HX
      have d_x4 := x4
      have d_HW := HW
      have d_x9 := x9
      have d_HM := HM
      have d_xw := xw
      have d_m1 := m1
      have hS : Rel (fun x => x = b2 ∨ w23.heap.size ≤ x) w23 w23 ∧ TapeOk w23 b2 := ⟨Rel.refl _ _, ht⟩
      have hwk := hws kk hkl
      refine Sx.dt (i := 0) rfl (by kernel_rfl) (by kernel_rfl) (by kernel_rfl) (by kernel_rfl) (fun _ _ _ _ h => h) rfl (wnt0 rfl) (fun wv h2 => r_mv rfl) hS ?_
      refine Sx.dt (i := 1) rfl (by kernel_rfl) (by kernel_rfl) (by kernel_rfl) (by kernel_rfl) (fun _ _ _ _ h => h) rfl (wnt0 rfl) (fun wv h2 => r_mv rfl) hS ?_
      refine Sx.dt (i := 2) rfl (by kernel_rfl) (by kernel_rfl) (by kernel_rfl) (by kernel_rfl) (fun _ _ _ _ h => h) rfl (wnt0 rfl) (fun wv h2 => r_mv rfl) hS ?_
      refine Sx.dt (i := 3) rfl (by kernel_rfl) (by kernel_rfl) (by kernel_rfl) (by kernel_rfl) (fun _ _ _ _ h => h) rfl (wnt0 rfl) (fun wv h2 => r_mv rfl) hS ?_
      refine Sx.dt (i := 6) rfl (by kernel_rfl) (by kernel_rfl) (by kernel_rfl) (by kernel_rfl) (fun _ _ _ _ h => h) rfl (wnt0 rfl) (fun wv h2 => r_mv rfl) hS ?_
      refine Sx.dt (i := 4) rfl (by kernel_rfl) (by kernel_rfl) (by kernel_rfl) (by kernel_rfl) (fun _ _ _ _ h => h) rfl (wnt0 rfl) (fun wv h2 => r_ix1i ix22 rfl (by first | rfl | assumption) rfl (by first | rfl | assumption) (by omega)) hS ?_
      refine Sx.dt (i := 5) rfl (by kernel_rfl) (by kernel_rfl) (by kernel_rfl) (by kernel_rfl) (fun _ _ _ _ h => h) rfl (wnt0 rfl) (fun wv h2 => r_ld0 ty3 rfl ((d_m1.rel h2.1 (show ¬ (g = b2 ∨ w23.heap.size ≤ g) from not_or.2 ⟨by omega, by omega⟩)).seg) rfl) hS ?_
      have tq24_ht := tape_lt ht
      refine Sx.da1 (i := 7) (by kernel_rfl) ?_
      refine Sx.wc rfl (wnt0 rfl) rfl (r_call en11 rfl) (next_any b2 60 _ ht (by omega) (by omega)) ?_
      rintro e w24 ⟨z24, p24, q24, rfl, hg24, ht24⟩
      have r24 := Rel.ofT hg24
      replace hT := hT.ch r24 (by omega)
      replace HX := HX.ch r24 (by omega)
      replace x4 := x4.ch r24 (by omega)
      replace HW := HW.ch r24 (by omega)
      replace x9 := x9.ch r24 (by omega)
      replace HM := HM.ch r24 (by omega)
      replace xw := xw.ch r24 (by omega)
      replace m1 := m1.ch r24 (by omega)
      replace E := E.then r24 (fun x hx (e : x = b2) => show w.heap.size ≤ x by omega)
      replace ht := ht24
      replace hS : Rel (fun x => x = b2 ∨ w23.heap.size ≤ x) w23 w24 ∧ TapeOk w24 b2 := ⟨hS.1.then r24 (fun x hx (e : x = b2) => show x = b2 ∨ w23.heap.size ≤ x by omega), ht⟩
      refine ⟨_, rfl, .inr hS, ?_⟩
      refine Sx.dt (i := 8) rfl (by kernel_rfl) (by kernel_rfl) (by kernel_rfl) (by kernel_rfl) (fun _ _ _ _ h => h) rfl (wnt0 rfl) (fun wv h2 => r_add rfl rfl (by omega) (by omega)) hS ?_
      refine Sx.dt (i := 9) rfl (by kernel_rfl) (by kernel_rfl) (by kernel_rfl) (by kernel_rfl) (fun _ _ _ _ h => h) rfl (wnt0 rfl) (fun wv h2 => r_min rfl rfl) hS ?_
      refine Sx.dt (i := 10) rfl (by kernel_rfl) (by kernel_rfl) (by kernel_rfl) (by kernel_rfl) (fun _ _ _ _ h => h) rfl (wnt0 rfl) (fun wv h2 => r_ix1i ix22 rfl (by first | rfl | assumption) rfl (by first | rfl | assumption) (by omega)) hS ?_
      refine Sx.da1 (i := 11) (by kernel_rfl) ?_
      refine Sx.wyu rfl (wnt0 rfl) (u_st sz3 rfl rfl rfl rfl xw hnk) rfl ?_
      rintro w25 ⟨r25, z25, xwn⟩
      replace hT := hT.ch r25 (by omega)
      replace ht := tape_rel ht r25 (fun b hb (e : b = g) => by omega)
      replace HX := HX.ch r25 (by omega)
      replace x4 := x4.ch r25 (by omega)
      replace HW := HW.ch r25 (by omega)
      replace x9 := x9.ch r25 (by omega)
      replace HM := HM.ch r25 (by omega)
      replace E := E.then r25 (fun x hx (e : x = g) => show w.heap.size ≤ x by omega)
      have htk2 := take_upd (k := kk) (z := min 100 (e0 ws kk + z24)) htk
      replace xw := xwn; clear xwn d_m1
      refine ⟨.inl rfl, ?_⟩
      refine Sx.dz (by kernel_rfl) ?_
      clear hS d_hT d_HX d_x4 d_HW d_x9 d_HM d_xw
      refine Sx.nT ?_
      have hl2 : (ws.set kk (min 100 (e0 ws kk + z24))).length = ws.length := List.length_set
      have hup : ∀ j, j < ws.length → e0 ws j ≤ e0 (ws.set kk (min 100 (e0 ws kk + z24))) j ∧ e0 (ws.set kk (min 100 (e0 ws kk + z24))) j ≤ 100 := fun j hj => by
        have h1 := hws j hj
        rw [e0_set hkl]
        by_cases hjk : j = kk
        · subst hjk; rw [if_pos rfl]; omega
        · rw [if_neg hjk]; omega
      have hlu : (upd lw kk (.int .i64 (min 100 (e0 ws kk + z24)))).length = lw.length := by rw [upd_set, List.length_set]
      have HV := Has.row (row_pre (B := g) (n := ws.length) xw (Nat.le_refl _) (by rw [hlu]; exact hlw) htk2)
      have lgw := xw.lt
      generalize ws.set kk (min 100 (e0 ws kk + z24)) = ws2 at *
      obtain ⟨wo, hwo⟩ : ∃ wo, smW (pwr x z7) ws ws.length = wo := ⟨_, rfl⟩
      obtain ⟨wm, hwm⟩ : ∃ wo, smW (pwr m z7) ws ws.length = wo := ⟨_, rfl⟩
      obtain ⟨wv, hwv⟩ : ∃ wo, smW (pwr x z7) ws2 ws2.length = wo := ⟨_, rfl⟩
      have hpb : ∀ i, i < ws.length → 0 ≤ e0 (pwr x z7) i ∧ e0 (pwr x z7) i ≤ 3 := fun i hi => pwr_b hok z7 (by omega)
      have hwb2 := smW_b hpb hws ws.length (Nat.le_refl _)
      rw [hwo] at hwb2
      have hum : wo ≤ wm := by
        rw [← hwo, ← hwm]
        exact smW_up ws.length (fun i hi => ⟨(hpb i hi).1, hext.pwr hmk2 z7 (by omega)⟩) (fun i hi => ⟨(hws i hi).1, Int.le_refl _⟩) _ (Nat.le_refl _)
      have huv : wo ≤ wv := by
        rw [← hwo, ← hwv, hl2]
        exact smW_up ws.length (fun i hi => ⟨(hpb i hi).1, Int.le_refl _⟩) (fun i hi => ⟨(hws i hi).1, (hup i hi).1⟩) _ (Nat.le_refl _)
      have hws2 : ∀ j, j < ws2.length → 0 ≤ e0 ws2 j ∧ e0 ws2 j ≤ 100 := fun j hj => by
        have h1 := hws j (by omega)
        have h2 := hup j (by omega)
        omega
      refine Sx.seq ?_
      refine Sx.reg ?_
      refine Sx.sv (r_ldr ty27 rfl (x4.seg) rfl) rfl (wnt0 rfl) ?_
      refine Sx.sv (r_mv rfl) rfl (wnt0 rfl) ?_
      refine Sx.sv (r_mv rfl) rfl (wnt0 rfl) ?_
      refine Sx.sv (r_mv rfl) rfl (wnt0 rfl) ?_
      have tq26_ht := tape_lt ht
      refine Sx.sc (r_call en18 rfl) rfl (wnt0 rfl) (rate_yes2 x v ws Aw cw z7 z8 false ws.length wo (1 + z8) _ (HX.ok.base (Nat.zero_le _)) (rfl) (HW.ok.base (Nat.zero_le _)) hok ⟨by omega, by omega⟩ hwn hws ⟨by omega, by omega⟩ hT hwo rfl) ?_
      rintro e w26 ⟨rfl, hb26⟩
      refine ⟨_, rfl, ?_⟩
      have r26 := Rel.of0 hb26
      replace hT := hT.nw r26
      replace ht := tape_rel ht r26 (fun _ _ h => h)
      replace HX := HX.nw r26
      replace x4 := x4.nw r26
      replace HW := HW.nw r26
      replace x9 := x9.nw r26
      replace HM := HM.nw r26
      replace HV := HV.nw r26
      replace E := E.then r26 (fun _ _ h => h.elim)
      refine Sx.sv (r_mv rfl) rfl (wnt0 rfl) ?_
      refine Sx.sv (r_ex rfl rfl) rfl (wnt0 rfl) ?_
      refine Sx.sv (r_ex rfl rfl) rfl (wnt0 rfl) ?_
      refine Sx.sy (y_all zi47 rfl) rfl (wnt0 rfl) ?_
      rintro _ w27 ⟨b27, rfl, n27, x27⟩
      have l27_hT : 0 < b27 := Nat.lt_of_lt_of_le hT.lt n27.ge
      have l27_ht : b2 < b27 := Nat.lt_of_lt_of_le (tape_lt ht) n27.ge
      have l27_HX : w3.heap.size ≤ b27 := Nat.le_trans HX.le n27.ge
      have l27_x4 : b4 < b27 := Nat.lt_of_lt_of_le x4.lt n27.ge
      have l27_HW : w6.heap.size ≤ b27 := Nat.le_trans HW.le n27.ge
      have l27_x9 : b9 < b27 := Nat.lt_of_lt_of_le x9.lt n27.ge
      have l27_HM : w20.heap.size ≤ b27 := Nat.le_trans HM.le n27.ge
      have l27_HV : w25.heap.size ≤ b27 := Nat.le_trans HV.le n27.ge
      have g27 : w.heap.size ≤ b27 := Nat.le_trans E.size n27.ge
      replace hT := hT.nw n27.r
      replace ht := tape_rel ht n27.r (fun _ _ h => h)
      replace HX := HX.nw n27.r
      replace x4 := x4.nw n27.r
      replace HW := HW.nw n27.r
      replace x9 := x9.nw n27.r
      replace HM := HM.nw n27.r
      replace HV := HV.nw n27.r
      replace E := E.then n27.r (fun _ _ h => h.elim)
      refine Sx.syu (u_stR ty47 rfl rfl rfl x27 rfl rfl) rfl (wnt0 rfl) ?_
      rintro w28 ⟨r28, z28, x28n⟩
      replace hT := hT.ch r28 (by omega)
      replace ht := tape_rel ht r28 (fun b hb (e : b = b27) => by omega)
      replace HX := HX.ch r28 (by omega)
      replace x4 := x4.ch r28 (by omega)
      replace HW := HW.ch r28 (by omega)
      replace x9 := x9.ch r28 (by omega)
      replace HM := HM.ch r28 (by omega)
      replace HV := HV.ch r28 (by omega)
      replace E := E.then r28 (fun x hx (e : x = b27) => show w.heap.size ≤ x by omega)
      replace x27 := x28n; clear x28n
      refine Sx.sv (r_as rfl) rfl (wnt0 rfl) ?_
      refine wnil ?_
      refine Sx.nT ?_
      refine Sx.seq ?_
      refine Sx.seq ?_
      refine Sx.reg ?_
      refine Sx.sv (r_as rfl) rfl (wnt0 rfl) ?_
      refine wnil ?_
      refine Sx.nT ?_
      refine Sx.blk ?_
      have t29_hT := hT.lt
      have t29_HX := HX.le
      have t29_x4 := x4.lt
      have t29_HW := HW.le
      have t29_x9 := x9.lt
      have t29_HM := HM.le
      have t29_HV := HV.le
      have t29_x27 := x27.lt
      refine Sx.lp (Nat) (fun i => [(13, .int .i64 (i : Int)), (3, .pointer (some ⟨b2, 0, none⟩)), (4, .pointer (some ⟨b4, 0, none⟩)), (8, .pointer (some ⟨b9, 0, none⟩)), (5, .slice Aw ws.length cw), (6, .int .i64 z7), (7, .int .i64 z8), (9, .slice (some ⟨g, 0, none⟩) (0 + ws.length) c21), (11, .pointer (some ⟨b27, 0, none⟩)), (12, .int .i64 0)]) (fun i wr => Rel (fun x => x = b2 ∨ w28.heap.size ≤ x) w28 wr ∧ TapeOk wr b2 ∧ i ≤ 4) (fun i => 4 - i) 0 ⟨rfl, rfl, rfl, rfl, rfl, rfl, rfl, rfl, rfl, rfl, trivial⟩ ⟨Rel.refl _ _, ht, Nat.zero_le _⟩ ?_
      rintro i fr w29 ⟨E29, htn, hi4⟩
      show Code.wp _ _ _ (Fa fr [(13, .int .i64 (i : Int)), (3, .pointer (some ⟨b2, 0, none⟩)), (4, .pointer (some ⟨b4, 0, none⟩)), (8, .pointer (some ⟨b9, 0, none⟩)), (5, .slice Aw ws.length cw), (6, .int .i64 z7), (7, .int .i64 z8), (9, .slice (some ⟨g, 0, none⟩) (0 + ws.length) c21), (11, .pointer (some ⟨b27, 0, none⟩)), (12, .int .i64 0)]) _
      replace hT := hT.rel E29 (show ¬ (0 = b2 ∨ w28.heap.size ≤ 0) by omega)
      replace ht := htn; clear htn
      replace HX := HX.rel E29 (fun x h1 h2 => show ¬ (x = b2 ∨ w28.heap.size ≤ x) by omega)
      replace x4 := x4.rel E29 (show ¬ (b4 = b2 ∨ w28.heap.size ≤ b4) by omega)
      replace HW := HW.rel E29 (fun x h1 h2 => show ¬ (x = b2 ∨ w28.heap.size ≤ x) by omega)
      replace x9 := x9.rel E29 (show ¬ (b9 = b2 ∨ w28.heap.size ≤ b9) by omega)
      replace HM := HM.rel E29 (fun x h1 h2 => show ¬ (x = b2 ∨ w28.heap.size ≤ x) by omega)
      replace HV := HV.rel E29 (fun x h1 h2 => show ¬ (x = b2 ∨ w28.heap.size ≤ x) by omega)
      replace x27 := x27.rel E29 (show ¬ (b27 = b2 ∨ w28.heap.size ≤ b27) by omega)
      have s29_E := E.size
      replace E := E.then E29 (fun x hx (e : x = b2 ∨ w28.heap.size ≤ x) => show w.heap.size ≤ x by omega)
      refine Sx.seq ?_
      refine Sx.seq ?_
      refine Sx.reg ?_
      refine Sx.sv (r_mv rfl) rfl (wnt0 rfl) ?_
      refine Sx.sv (r_lt rfl rfl) rfl (wnt0 rfl) ?_
      refine wnil ?_
      refine Sx.nT ?_
      by_cases hlt : i < 4
      · refine Sx.ct rfl (decide_eq_true (by omega)) ?_
        rcases (show i = 0 ∨ i = 1 ∨ i = 2 ∨ i = 3 by omega) with hi0 | hi0 | hi0 | hi0
        · refine wp_skip ?_
          refine Sx.nT ?_
          refine Sx.seq ?_
          refine Sx.blk ?_
          refine Sx.seq ?_
          refine Sx.reg ?_
          refine Sx.sv (r_ldr ty27 rfl (x4.seg) rfl) rfl (wnt0 rfl) ?_
          refine Sx.sv (r_mv rfl) rfl (wnt0 rfl) ?_
          refine Sx.sv (r_mv rfl) rfl (wnt0 rfl) ?_
          refine Sx.sy (y_all zi27 rfl) rfl (wnt0 rfl) ?_
          rintro _ w30 ⟨b30, rfl, n30, x30⟩
          have l30_hT : 0 < b30 := Nat.lt_of_lt_of_le hT.lt n30.ge
          have l30_ht : b2 < b30 := Nat.lt_of_lt_of_le (tape_lt ht) n30.ge
          have l30_HX : w3.heap.size ≤ b30 := Nat.le_trans HX.le n30.ge
          have l30_x4 : b4 < b30 := Nat.lt_of_lt_of_le x4.lt n30.ge
          have l30_HW : w6.heap.size ≤ b30 := Nat.le_trans HW.le n30.ge
          have l30_x9 : b9 < b30 := Nat.lt_of_lt_of_le x9.lt n30.ge
          have l30_HM : w20.heap.size ≤ b30 := Nat.le_trans HM.le n30.ge
          have l30_HV : w25.heap.size ≤ b30 := Nat.le_trans HV.le n30.ge
          have l30_x27 : b27 < b30 := Nat.lt_of_lt_of_le x27.lt n30.ge
          have g30 : w.heap.size ≤ b30 := Nat.le_trans E.size n30.ge
          have g30_E29 : w28.heap.size ≤ b30 := Nat.le_trans E29.size n30.ge
          replace hT := hT.nw n30.r
          replace ht := tape_rel ht n30.r (fun _ _ h => h)
          replace HX := HX.nw n30.r
          replace x4 := x4.nw n30.r
          replace HW := HW.nw n30.r
          replace x9 := x9.nw n30.r
          replace HM := HM.nw n30.r
          replace HV := HV.nw n30.r
          replace x27 := x27.nw n30.r
          replace E := E.then n30.r (fun _ _ h => h.elim)
          replace E29 := E29.then n30.r (fun _ _ h => h.elim)
          refine Sx.syu (u_stR ty27 rfl rfl rfl x30 rfl rfl) rfl (wnt0 rfl) ?_
          rintro w31 ⟨r31, z31, x31n⟩
          replace hT := hT.ch r31 (by omega)
          replace ht := tape_rel ht r31 (fun b hb (e : b = b30) => by omega)
          replace HX := HX.ch r31 (by omega)
          replace x4 := x4.ch r31 (by omega)
          replace HW := HW.ch r31 (by omega)
          replace x9 := x9.ch r31 (by omega)
          replace HM := HM.ch r31 (by omega)
          replace HV := HV.ch r31 (by omega)
          replace x27 := x27.ch r31 (by omega)
          replace E := E.then r31 (fun x hx (e : x = b30) => show w.heap.size ≤ x by omega)
          replace E29 := E29.then r31 (fun x hx (e : x = b30) => show x = b2 ∨ w28.heap.size ≤ x by omega)
          replace x30 := x31n; clear x31n
          refine Sx.sv (r_as rfl) rfl (wnt0 rfl) ?_
          refine Sx.sv (r_as rfl) rfl (wnt0 rfl) ?_
          refine Sx.sv (r_as rfl) rfl (wnt0 rfl) ?_
          refine wnil ?_
          refine Sx.nT ?_
          refine Sx.seq ?_
          refine Sx.seq ?_
          refine Sx.reg ?_
          refine Sx.sv (r_mv rfl) rfl (wnt0 rfl) ?_
          refine wnil ?_
          refine Sx.nT ?_
          refine Sx.blk ?_
          refine Sx.seq ?_
          refine Sx.reg ?_
          refine Sx.sv (r_eq rfl rfl) rfl (wnt0 rfl) ?_
          refine Sx.sv (r_as rfl) rfl (wnt0 rfl) ?_
          refine wnil ?_
          refine Sx.nT ?_
          refine Sx.ct rfl (decide_eq_true (by omega)) ?_
          refine Sx.reg ?_
          refine Sx.sv (r_ldr ty27 rfl (x9.seg) rfl) rfl (wnt0 rfl) ?_
          refine Sx.syu (u_stR ty27 rfl rfl rfl x30 rfl rfl) rfl (wnt0 rfl) ?_
          rintro w32 ⟨r32, z32, x32n⟩
          replace hT := hT.ch r32 (by omega)
          replace ht := tape_rel ht r32 (fun b hb (e : b = b30) => by omega)
          replace HX := HX.ch r32 (by omega)
          replace x4 := x4.ch r32 (by omega)
          replace HW := HW.ch r32 (by omega)
          replace x9 := x9.ch r32 (by omega)
          replace HM := HM.ch r32 (by omega)
          replace HV := HV.ch r32 (by omega)
          replace x27 := x27.ch r32 (by omega)
          replace E := E.then r32 (fun x hx (e : x = b30) => show w.heap.size ≤ x by omega)
          replace E29 := E29.then r32 (fun x hx (e : x = b30) => show x = b2 ∨ w28.heap.size ≤ x by omega)
          replace x30 := x32n; clear x32n
          refine wnil ?_
          refine Sx.nB ?_
          refine Sx.nT ?_
          refine Sx.seq ?_
          refine Sx.reg ?_
          refine Sx.sv (r_ldr ty27 rfl (x30.seg) rfl) rfl (wnt0 rfl) ?_
          refine Sx.sv (r_mv rfl) rfl (wnt0 rfl) ?_
          refine Sx.sv (r_mv rfl) rfl (wnt0 rfl) ?_
          refine Sx.sv (r_mv rfl) rfl (wnt0 rfl) ?_
          refine Sx.sv (r_mv rfl) rfl (wnt0 rfl) ?_
          have hu4 := rt4_up (wo := wo) (wo' := wm) (au := 1 + z8) (au' := (1 + z8)) (by omega) (by omega) (by omega) (by omega)
          have tq33_ht := tape_lt ht
          refine Sx.sc (r_call en18 rfl) rfl (wnt0 rfl) (rate_yes2 m vm ws Aw cw z7 z8 false ws.length wm (1 + z8) _ (HM.ok.base (Nat.zero_le _)) (rfl) (HW.ok.base (Nat.zero_le _)) hokm ⟨by omega, by omega⟩ (by rw [hmk2]; exact hwn) hws ⟨by omega, by omega⟩ hT hwm rfl) ?_
          rintro e w33 ⟨rfl, hb33⟩
          refine ⟨_, rfl, ?_⟩
          have r33 := Rel.of0 hb33
          replace hT := hT.nw r33
          replace ht := tape_rel ht r33 (fun _ _ h => h)
          replace HX := HX.nw r33
          replace x4 := x4.nw r33
          replace HW := HW.nw r33
          replace x9 := x9.nw r33
          replace HM := HM.nw r33
          replace HV := HV.nw r33
          replace x27 := x27.nw r33
          replace x30 := x30.nw r33
          replace E := E.then r33 (fun _ _ h => h.elim)
          replace E29 := E29.then r33 (fun _ _ h => h.elim)
          refine Sx.sv (r_mv rfl) rfl (wnt0 rfl) ?_
          refine Sx.sv (r_ex rfl rfl) rfl (wnt0 rfl) ?_
          refine Sx.sv (r_ex rfl rfl) rfl (wnt0 rfl) ?_
          refine Sx.sy (y_all zi47 rfl) rfl (wnt0 rfl) ?_
          rintro _ w34 ⟨b34, rfl, n34, x34⟩
          have l34_hT : 0 < b34 := Nat.lt_of_lt_of_le hT.lt n34.ge
          have l34_ht : b2 < b34 := Nat.lt_of_lt_of_le (tape_lt ht) n34.ge
          have l34_HX : w3.heap.size ≤ b34 := Nat.le_trans HX.le n34.ge
          have l34_x4 : b4 < b34 := Nat.lt_of_lt_of_le x4.lt n34.ge
          have l34_HW : w6.heap.size ≤ b34 := Nat.le_trans HW.le n34.ge
          have l34_x9 : b9 < b34 := Nat.lt_of_lt_of_le x9.lt n34.ge
          have l34_HM : w20.heap.size ≤ b34 := Nat.le_trans HM.le n34.ge
          have l34_HV : w25.heap.size ≤ b34 := Nat.le_trans HV.le n34.ge
          have l34_x27 : b27 < b34 := Nat.lt_of_lt_of_le x27.lt n34.ge
          have l34_x30 : b30 < b34 := Nat.lt_of_lt_of_le x30.lt n34.ge
          have g34 : w.heap.size ≤ b34 := Nat.le_trans E.size n34.ge
          have g34_E29 : w28.heap.size ≤ b34 := Nat.le_trans E29.size n34.ge
          replace hT := hT.nw n34.r
          replace ht := tape_rel ht n34.r (fun _ _ h => h)
          replace HX := HX.nw n34.r
          replace x4 := x4.nw n34.r
          replace HW := HW.nw n34.r
          replace x9 := x9.nw n34.r
          replace HM := HM.nw n34.r
          replace HV := HV.nw n34.r
          replace x27 := x27.nw n34.r
          replace x30 := x30.nw n34.r
          replace E := E.then n34.r (fun _ _ h => h.elim)
          replace E29 := E29.then n34.r (fun _ _ h => h.elim)
          refine Sx.syu (u_stR ty47 rfl rfl rfl x34 rfl rfl) rfl (wnt0 rfl) ?_
          rintro w35 ⟨r35, z35, x35n⟩
          replace hT := hT.ch r35 (by omega)
          replace ht := tape_rel ht r35 (fun b hb (e : b = b34) => by omega)
          replace HX := HX.ch r35 (by omega)
          replace x4 := x4.ch r35 (by omega)
          replace HW := HW.ch r35 (by omega)
          replace x9 := x9.ch r35 (by omega)
          replace HM := HM.ch r35 (by omega)
          replace HV := HV.ch r35 (by omega)
          replace x27 := x27.ch r35 (by omega)
          replace x30 := x30.ch r35 (by omega)
          replace E := E.then r35 (fun x hx (e : x = b34) => show w.heap.size ≤ x by omega)
          replace E29 := E29.then r35 (fun x hx (e : x = b34) => show x = b2 ∨ w28.heap.size ≤ x by omega)
          replace x34 := x35n; clear x35n
          refine Sx.sv (r_as rfl) rfl (wnt0 rfl) ?_
          refine wnil ?_
          refine Sx.nT ?_
          refine Sx.seq ?_
          refine Sx.reg ?_
          refine Sx.sv (r_mv rfl) rfl (wnt0 rfl) ?_
          refine Sx.sv (r_ne rfl rfl) rfl (wnt0 rfl) ?_
          refine Sx.sv (r_mv rfl) rfl (wnt0 rfl) ?_
          refine Sx.sv (r_mv rfl) rfl (wnt1 (dj := 113) (b0 := false) rfl rfl rfl rfl (decide_eq_false (by decide)) rfl) ?_
          refine Sx.sv (r_ne rfl rfl) rfl (wnt1 (dj := 113) (b0 := false) rfl rfl rfl rfl (decide_eq_false (by decide)) rfl) ?_
          refine Sx.sv (r_pkF rfl (decide_eq_false (by decide)) rfl) rfl (wnt0 rfl) ?_
          refine Sx.sv (r_mv rfl) rfl (wnt0 rfl) ?_
          refine Sx.sv (r_fa fo47_3 rfl) rfl (wnt1 (dj := 117) (b0 := false) rfl rfl rfl rfl (decide_eq_false (by decide)) rfl) ?_
          refine Sx.sv (r_ld ty3 rfl (x34.seg) rfl) rfl (wnt1 (dj := 117) (b0 := false) rfl rfl rfl rfl (decide_eq_false (by decide)) rfl) ?_
          refine Sx.sv (r_fa fo47_3 rfl) rfl (wnt1 (dj := 117) (b0 := false) rfl rfl rfl rfl (decide_eq_false (by decide)) rfl) ?_
          refine Sx.sv (r_ld ty3 rfl (x27.seg) rfl) rfl (wnt1 (dj := 117) (b0 := false) rfl rfl rfl rfl (decide_eq_false (by decide)) rfl) ?_
          refine Sx.sv (r_lt rfl rfl) rfl (wnt1 (dj := 117) (b0 := false) rfl rfl rfl rfl (decide_eq_false (by decide)) rfl) ?_
          refine Sx.sv (r_pkF rfl (decide_eq_false (by decide)) rfl) rfl (wnt0 rfl) ?_
          refine Sx.sv (r_mv rfl) rfl (wnt0 rfl) ?_
          refine Sx.sv (r_fa fo47_0 rfl) rfl (wnt1 (dj := 124) (b0 := false) rfl rfl rfl rfl (decide_eq_false (by omega)) rfl) ?_
          refine Sx.sv (r_ld ty3 rfl (x34.seg) rfl) rfl (wnt1 (dj := 124) (b0 := false) rfl rfl rfl rfl (decide_eq_false (by omega)) rfl) ?_
          refine Sx.sv (r_fa fo47_0 rfl) rfl (wnt1 (dj := 124) (b0 := false) rfl rfl rfl rfl (decide_eq_false (by omega)) rfl) ?_
          refine Sx.sv (r_ld ty3 rfl (x27.seg) rfl) rfl (wnt1 (dj := 124) (b0 := false) rfl rfl rfl rfl (decide_eq_false (by omega)) rfl) ?_
          refine Sx.sv (r_lt rfl rfl) rfl (wnt1 (dj := 124) (b0 := false) rfl rfl rfl rfl (decide_eq_false (by omega)) rfl) ?_
          refine Sx.sv (r_pkF rfl (decide_eq_false (by omega)) rfl) rfl (wnt0 rfl) ?_
          refine Sx.sv (r_mv rfl) rfl (wnt0 rfl) ?_
          refine Sx.sv (r_fa fo47_1 rfl) rfl (wnt1 (dj := 131) (b0 := false) rfl rfl rfl rfl (decide_eq_false (by omega)) rfl) ?_
          refine Sx.sv (r_ld ty3 rfl (x34.seg) rfl) rfl (wnt1 (dj := 131) (b0 := false) rfl rfl rfl rfl (decide_eq_false (by omega)) rfl) ?_
          refine Sx.sv (r_fa fo47_1 rfl) rfl (wnt1 (dj := 131) (b0 := false) rfl rfl rfl rfl (decide_eq_false (by omega)) rfl) ?_
          refine Sx.sv (r_ld ty3 rfl (x27.seg) rfl) rfl (wnt1 (dj := 131) (b0 := false) rfl rfl rfl rfl (decide_eq_false (by omega)) rfl) ?_
          refine Sx.sv (r_lt rfl rfl) rfl (wnt1 (dj := 131) (b0 := false) rfl rfl rfl rfl (decide_eq_false (by omega)) rfl) ?_
          refine Sx.sv (r_pkF rfl (decide_eq_false (by omega)) rfl) rfl (wnt0 rfl) ?_
          refine Sx.sv (r_mv rfl) rfl (wnt0 rfl) ?_
          refine Sx.sv (r_fa fo47_2 rfl) rfl (wnt1 (dj := 138) (b0 := false) rfl rfl rfl rfl (decide_eq_false (by omega)) rfl) ?_
          refine Sx.sv (r_ld ty3 rfl (x34.seg) rfl) rfl (wnt1 (dj := 138) (b0 := false) rfl rfl rfl rfl (decide_eq_false (by omega)) rfl) ?_
          refine Sx.sv (r_fa fo47_2 rfl) rfl (wnt1 (dj := 138) (b0 := false) rfl rfl rfl rfl (decide_eq_false (by omega)) rfl) ?_
          refine Sx.sv (r_ld ty3 rfl (x27.seg) rfl) rfl (wnt1 (dj := 138) (b0 := false) rfl rfl rfl rfl (decide_eq_false (by omega)) rfl) ?_
          refine Sx.sv (r_lt rfl rfl) rfl (wnt1 (dj := 138) (b0 := false) rfl rfl rfl rfl (decide_eq_false (by omega)) rfl) ?_
          refine Sx.sv (r_pkF rfl (decide_eq_false (by omega)) rfl) rfl (wnt0 rfl) ?_
          refine wnil ?_
          refine Sx.nT ?_
          refine Sx.cf rfl (decide_eq_false (by omega)) ?_
          refine wp_skip ?_
          refine Sx.nB ?_
          refine Sx.nT ?_
          refine Sx.reg ?_
          refine Sx.sv (r_mv rfl) rfl (wnt0 rfl) ?_
          refine Sx.sv (r_add rfl rfl (by omega) (by omega)) rfl (wnt0 rfl) ?_
          refine Sx.sv (r_as rfl) rfl (wnt0 rfl) ?_
          refine wnil ?_
          refine Sx.nT ?_
          exact Sx.lpe (i + 1) ⟨rfl, rfl, rfl, rfl, rfl, rfl, rfl, rfl, rfl, rfl, trivial⟩ ⟨E29, ht, hlt⟩ (show 4 - (i + 1) < 4 - i by omega)
        · refine wp_skip ?_
          refine Sx.nT ?_
          refine Sx.seq ?_
          refine Sx.blk ?_
          refine Sx.seq ?_
          refine Sx.reg ?_
          refine Sx.sv (r_ldr ty27 rfl (x4.seg) rfl) rfl (wnt0 rfl) ?_
          refine Sx.sv (r_mv rfl) rfl (wnt0 rfl) ?_
          refine Sx.sv (r_mv rfl) rfl (wnt0 rfl) ?_
          refine Sx.sy (y_all zi27 rfl) rfl (wnt0 rfl) ?_
          rintro _ w36 ⟨b36, rfl, n36, x36⟩
          have l36_hT : 0 < b36 := Nat.lt_of_lt_of_le hT.lt n36.ge
          have l36_ht : b2 < b36 := Nat.lt_of_lt_of_le (tape_lt ht) n36.ge
          have l36_HX : w3.heap.size ≤ b36 := Nat.le_trans HX.le n36.ge
          have l36_x4 : b4 < b36 := Nat.lt_of_lt_of_le x4.lt n36.ge
          have l36_HW : w6.heap.size ≤ b36 := Nat.le_trans HW.le n36.ge
          have l36_x9 : b9 < b36 := Nat.lt_of_lt_of_le x9.lt n36.ge
          have l36_HM : w20.heap.size ≤ b36 := Nat.le_trans HM.le n36.ge
          have l36_HV : w25.heap.size ≤ b36 := Nat.le_trans HV.le n36.ge
          have l36_x27 : b27 < b36 := Nat.lt_of_lt_of_le x27.lt n36.ge
          have g36 : w.heap.size ≤ b36 := Nat.le_trans E.size n36.ge
          have g36_E29 : w28.heap.size ≤ b36 := Nat.le_trans E29.size n36.ge
          replace hT := hT.nw n36.r
          replace ht := tape_rel ht n36.r (fun _ _ h => h)
          replace HX := HX.nw n36.r
          replace x4 := x4.nw n36.r
          replace HW := HW.nw n36.r
          replace x9 := x9.nw n36.r
          replace HM := HM.nw n36.r
          replace HV := HV.nw n36.r
          replace x27 := x27.nw n36.r
          replace E := E.then n36.r (fun _ _ h => h.elim)
          replace E29 := E29.then n36.r (fun _ _ h => h.elim)
          refine Sx.syu (u_stR ty27 rfl rfl rfl x36 rfl rfl) rfl (wnt0 rfl) ?_
          rintro w37 ⟨r37, z37, x37n⟩
          replace hT := hT.ch r37 (by omega)
          replace ht := tape_rel ht r37 (fun b hb (e : b = b36) => by omega)
          replace HX := HX.ch r37 (by omega)
          replace x4 := x4.ch r37 (by omega)
          replace HW := HW.ch r37 (by omega)
          replace x9 := x9.ch r37 (by omega)
          replace HM := HM.ch r37 (by omega)
          replace HV := HV.ch r37 (by omega)
          replace x27 := x27.ch r37 (by omega)
          replace E := E.then r37 (fun x hx (e : x = b36) => show w.heap.size ≤ x by omega)
          replace E29 := E29.then r37 (fun x hx (e : x = b36) => show x = b2 ∨ w28.heap.size ≤ x by omega)
          replace x36 := x37n; clear x37n
          refine Sx.sv (r_as rfl) rfl (wnt0 rfl) ?_
          refine Sx.sv (r_as rfl) rfl (wnt0 rfl) ?_
          refine Sx.sv (r_as rfl) rfl (wnt0 rfl) ?_
          refine wnil ?_
          refine Sx.nT ?_
          refine Sx.seq ?_
          refine Sx.seq ?_
          refine Sx.reg ?_
          refine Sx.sv (r_mv rfl) rfl (wnt0 rfl) ?_
          refine wnil ?_
          refine Sx.nT ?_
          refine Sx.blk ?_
          refine Sx.seq ?_
          refine Sx.reg ?_
          refine Sx.sv (r_eq rfl rfl) rfl (wnt0 rfl) ?_
          refine Sx.sv (r_as rfl) rfl (wnt0 rfl) ?_
          refine wnil ?_
          refine Sx.nT ?_
          refine Sx.cf rfl (decide_eq_false (by omega)) ?_
          refine Sx.seq ?_
          refine Sx.reg ?_
          refine Sx.sv (r_eq rfl rfl) rfl (wnt0 rfl) ?_
          refine Sx.sv (r_as rfl) rfl (wnt0 rfl) ?_
          refine wnil ?_
          refine Sx.nT ?_
          refine Sx.ct rfl (decide_eq_true (by omega)) ?_
          refine Sx.reg ?_
          refine Sx.sv (r_mv rfl) rfl (wnt0 rfl) ?_
          refine Sx.sv (r_as rfl) rfl (wnt0 rfl) ?_
          refine wnil ?_
          refine Sx.nB ?_
          refine Sx.nT ?_
          refine Sx.seq ?_
          refine Sx.reg ?_
          refine Sx.sv (r_ldr ty27 rfl (x36.seg) rfl) rfl (wnt0 rfl) ?_
          refine Sx.sv (r_mv rfl) rfl (wnt0 rfl) ?_
          refine Sx.sv (r_mv rfl) rfl (wnt0 rfl) ?_
          refine Sx.sv (r_mv rfl) rfl (wnt0 rfl) ?_
          refine Sx.sv (r_mv rfl) rfl (wnt0 rfl) ?_
          have hu4 := rt4_up (wo := wo) (wo' := wv) (au := 1 + z8) (au' := (1 + z8)) (by omega) (by omega) (by omega) (by omega)
          have tq38_ht := tape_lt ht
          refine Sx.sc (r_call en18 rfl) rfl (wnt0 rfl) (rate_yes2 x v ws2 (some ⟨g, 0, none⟩) c21 z7 z8 false (0 + ws.length) wv (1 + z8) _ (HX.ok.base (Nat.zero_le _)) (by omega) (by rw [Nat.zero_add]; exact HV.ok.base (Nat.zero_le _)) hok ⟨by omega, by omega⟩ (by omega) hws2 ⟨by omega, by omega⟩ hT hwv rfl) ?_
          rintro e w38 ⟨rfl, hb38⟩
          refine ⟨_, rfl, ?_⟩
          have r38 := Rel.of0 hb38
          replace hT := hT.nw r38
          replace ht := tape_rel ht r38 (fun _ _ h => h)
          replace HX := HX.nw r38
          replace x4 := x4.nw r38
          replace HW := HW.nw r38
          replace x9 := x9.nw r38
          replace HM := HM.nw r38
          replace HV := HV.nw r38
          replace x27 := x27.nw r38
          replace x36 := x36.nw r38
          replace E := E.then r38 (fun _ _ h => h.elim)
          replace E29 := E29.then r38 (fun _ _ h => h.elim)
          refine Sx.sv (r_mv rfl) rfl (wnt0 rfl) ?_
          refine Sx.sv (r_ex rfl rfl) rfl (wnt0 rfl) ?_
          refine Sx.sv (r_ex rfl rfl) rfl (wnt0 rfl) ?_
          refine Sx.sy (y_all zi47 rfl) rfl (wnt0 rfl) ?_
          rintro _ w39 ⟨b39, rfl, n39, x39⟩
          have l39_hT : 0 < b39 := Nat.lt_of_lt_of_le hT.lt n39.ge
          have l39_ht : b2 < b39 := Nat.lt_of_lt_of_le (tape_lt ht) n39.ge
          have l39_HX : w3.heap.size ≤ b39 := Nat.le_trans HX.le n39.ge
          have l39_x4 : b4 < b39 := Nat.lt_of_lt_of_le x4.lt n39.ge
          have l39_HW : w6.heap.size ≤ b39 := Nat.le_trans HW.le n39.ge
          have l39_x9 : b9 < b39 := Nat.lt_of_lt_of_le x9.lt n39.ge
          have l39_HM : w20.heap.size ≤ b39 := Nat.le_trans HM.le n39.ge
          have l39_HV : w25.heap.size ≤ b39 := Nat.le_trans HV.le n39.ge
          have l39_x27 : b27 < b39 := Nat.lt_of_lt_of_le x27.lt n39.ge
          have l39_x36 : b36 < b39 := Nat.lt_of_lt_of_le x36.lt n39.ge
          have g39 : w.heap.size ≤ b39 := Nat.le_trans E.size n39.ge
          have g39_E29 : w28.heap.size ≤ b39 := Nat.le_trans E29.size n39.ge
          replace hT := hT.nw n39.r
          replace ht := tape_rel ht n39.r (fun _ _ h => h)
          replace HX := HX.nw n39.r
          replace x4 := x4.nw n39.r
          replace HW := HW.nw n39.r
          replace x9 := x9.nw n39.r
          replace HM := HM.nw n39.r
          replace HV := HV.nw n39.r
          replace x27 := x27.nw n39.r
          replace x36 := x36.nw n39.r
          replace E := E.then n39.r (fun _ _ h => h.elim)
          replace E29 := E29.then n39.r (fun _ _ h => h.elim)
          refine Sx.syu (u_stR ty47 rfl rfl rfl x39 rfl rfl) rfl (wnt0 rfl) ?_
          rintro w40 ⟨r40, z40, x40n⟩
          replace hT := hT.ch r40 (by omega)
          replace ht := tape_rel ht r40 (fun b hb (e : b = b39) => by omega)
          replace HX := HX.ch r40 (by omega)
          replace x4 := x4.ch r40 (by omega)
          replace HW := HW.ch r40 (by omega)
          replace x9 := x9.ch r40 (by omega)
          replace HM := HM.ch r40 (by omega)
          replace HV := HV.ch r40 (by omega)
          replace x27 := x27.ch r40 (by omega)
          replace x36 := x36.ch r40 (by omega)
          replace E := E.then r40 (fun x hx (e : x = b39) => show w.heap.size ≤ x by omega)
          replace E29 := E29.then r40 (fun x hx (e : x = b39) => show x = b2 ∨ w28.heap.size ≤ x by omega)
          replace x39 := x40n; clear x40n
          refine Sx.sv (r_as rfl) rfl (wnt0 rfl) ?_
          refine wnil ?_
          refine Sx.nT ?_
          refine Sx.seq ?_
          refine Sx.reg ?_
          refine Sx.sv (r_mv rfl) rfl (wnt0 rfl) ?_
          refine Sx.sv (r_ne rfl rfl) rfl (wnt0 rfl) ?_
          refine Sx.sv (r_mv rfl) rfl (wnt0 rfl) ?_
          refine Sx.sv (r_mv rfl) rfl (wnt1 (dj := 113) (b0 := false) rfl rfl rfl rfl (decide_eq_false (by decide)) rfl) ?_
          refine Sx.sv (r_ne rfl rfl) rfl (wnt1 (dj := 113) (b0 := false) rfl rfl rfl rfl (decide_eq_false (by decide)) rfl) ?_
          refine Sx.sv (r_pkF rfl (decide_eq_false (by decide)) rfl) rfl (wnt0 rfl) ?_
          refine Sx.sv (r_mv rfl) rfl (wnt0 rfl) ?_
          refine Sx.sv (r_fa fo47_3 rfl) rfl (wnt1 (dj := 117) (b0 := false) rfl rfl rfl rfl (decide_eq_false (by decide)) rfl) ?_
          refine Sx.sv (r_ld ty3 rfl (x39.seg) rfl) rfl (wnt1 (dj := 117) (b0 := false) rfl rfl rfl rfl (decide_eq_false (by decide)) rfl) ?_
          refine Sx.sv (r_fa fo47_3 rfl) rfl (wnt1 (dj := 117) (b0 := false) rfl rfl rfl rfl (decide_eq_false (by decide)) rfl) ?_
          refine Sx.sv (r_ld ty3 rfl (x27.seg) rfl) rfl (wnt1 (dj := 117) (b0 := false) rfl rfl rfl rfl (decide_eq_false (by decide)) rfl) ?_
          refine Sx.sv (r_lt rfl rfl) rfl (wnt1 (dj := 117) (b0 := false) rfl rfl rfl rfl (decide_eq_false (by decide)) rfl) ?_
          refine Sx.sv (r_pkF rfl (decide_eq_false (by decide)) rfl) rfl (wnt0 rfl) ?_
          refine Sx.sv (r_mv rfl) rfl (wnt0 rfl) ?_
          refine Sx.sv (r_fa fo47_0 rfl) rfl (wnt1 (dj := 124) (b0 := false) rfl rfl rfl rfl (decide_eq_false (by omega)) rfl) ?_
          refine Sx.sv (r_ld ty3 rfl (x39.seg) rfl) rfl (wnt1 (dj := 124) (b0 := false) rfl rfl rfl rfl (decide_eq_false (by omega)) rfl) ?_
          refine Sx.sv (r_fa fo47_0 rfl) rfl (wnt1 (dj := 124) (b0 := false) rfl rfl rfl rfl (decide_eq_false (by omega)) rfl) ?_
          refine Sx.sv (r_ld ty3 rfl (x27.seg) rfl) rfl (wnt1 (dj := 124) (b0 := false) rfl rfl rfl rfl (decide_eq_false (by omega)) rfl) ?_
          refine Sx.sv (r_lt rfl rfl) rfl (wnt1 (dj := 124) (b0 := false) rfl rfl rfl rfl (decide_eq_false (by omega)) rfl) ?_
          refine Sx.sv (r_pkF rfl (decide_eq_false (by omega)) rfl) rfl (wnt0 rfl) ?_
          refine Sx.sv (r_mv rfl) rfl (wnt0 rfl) ?_
          refine Sx.sv (r_fa fo47_1 rfl) rfl (wnt1 (dj := 131) (b0 := false) rfl rfl rfl rfl (decide_eq_false (by omega)) rfl) ?_
          refine Sx.sv (r_ld ty3 rfl (x39.seg) rfl) rfl (wnt1 (dj := 131) (b0 := false) rfl rfl rfl rfl (decide_eq_false (by omega)) rfl) ?_
          refine Sx.sv (r_fa fo47_1 rfl) rfl (wnt1 (dj := 131) (b0 := false) rfl rfl rfl rfl (decide_eq_false (by omega)) rfl) ?_
          refine Sx.sv (r_ld ty3 rfl (x27.seg) rfl) rfl (wnt1 (dj := 131) (b0 := false) rfl rfl rfl rfl (decide_eq_false (by omega)) rfl) ?_
          refine Sx.sv (r_lt rfl rfl) rfl (wnt1 (dj := 131) (b0 := false) rfl rfl rfl rfl (decide_eq_false (by omega)) rfl) ?_
          refine Sx.sv (r_pkF rfl (decide_eq_false (by omega)) rfl) rfl (wnt0 rfl) ?_
          refine Sx.sv (r_mv rfl) rfl (wnt0 rfl) ?_
          refine Sx.sv (r_fa fo47_2 rfl) rfl (wnt1 (dj := 138) (b0 := false) rfl rfl rfl rfl (decide_eq_false (by omega)) rfl) ?_
          refine Sx.sv (r_ld ty3 rfl (x39.seg) rfl) rfl (wnt1 (dj := 138) (b0 := false) rfl rfl rfl rfl (decide_eq_false (by omega)) rfl) ?_
          refine Sx.sv (r_fa fo47_2 rfl) rfl (wnt1 (dj := 138) (b0 := false) rfl rfl rfl rfl (decide_eq_false (by omega)) rfl) ?_
          refine Sx.sv (r_ld ty3 rfl (x27.seg) rfl) rfl (wnt1 (dj := 138) (b0 := false) rfl rfl rfl rfl (decide_eq_false (by omega)) rfl) ?_
          refine Sx.sv (r_lt rfl rfl) rfl (wnt1 (dj := 138) (b0 := false) rfl rfl rfl rfl (decide_eq_false (by omega)) rfl) ?_
          refine Sx.sv (r_pkF rfl (decide_eq_false (by omega)) rfl) rfl (wnt0 rfl) ?_
          refine wnil ?_
          refine Sx.nT ?_
          refine Sx.cf rfl (decide_eq_false (by omega)) ?_
          refine wp_skip ?_
          refine Sx.nB ?_
          refine Sx.nT ?_
          refine Sx.reg ?_
          refine Sx.sv (r_mv rfl) rfl (wnt0 rfl) ?_
          refine Sx.sv (r_add rfl rfl (by omega) (by omega)) rfl (wnt0 rfl) ?_
          refine Sx.sv (r_as rfl) rfl (wnt0 rfl) ?_
          refine wnil ?_
          refine Sx.nT ?_
          exact Sx.lpe (i + 1) ⟨rfl, rfl, rfl, rfl, rfl, rfl, rfl, rfl, rfl, rfl, trivial⟩ ⟨E29, ht, hlt⟩ (show 4 - (i + 1) < 4 - i by omega)
        · refine wp_skip ?_
          refine Sx.nT ?_
          refine Sx.seq ?_
          refine Sx.blk ?_
          refine Sx.seq ?_
          refine Sx.reg ?_
          refine Sx.sv (r_ldr ty27 rfl (x4.seg) rfl) rfl (wnt0 rfl) ?_
          refine Sx.sv (r_mv rfl) rfl (wnt0 rfl) ?_
          refine Sx.sv (r_mv rfl) rfl (wnt0 rfl) ?_
          refine Sx.sy (y_all zi27 rfl) rfl (wnt0 rfl) ?_
          rintro _ w41 ⟨b41, rfl, n41, x41⟩
          have l41_hT : 0 < b41 := Nat.lt_of_lt_of_le hT.lt n41.ge
          have l41_ht : b2 < b41 := Nat.lt_of_lt_of_le (tape_lt ht) n41.ge
          have l41_HX : w3.heap.size ≤ b41 := Nat.le_trans HX.le n41.ge
          have l41_x4 : b4 < b41 := Nat.lt_of_lt_of_le x4.lt n41.ge
          have l41_HW : w6.heap.size ≤ b41 := Nat.le_trans HW.le n41.ge
          have l41_x9 : b9 < b41 := Nat.lt_of_lt_of_le x9.lt n41.ge
          have l41_HM : w20.heap.size ≤ b41 := Nat.le_trans HM.le n41.ge
          have l41_HV : w25.heap.size ≤ b41 := Nat.le_trans HV.le n41.ge
          have l41_x27 : b27 < b41 := Nat.lt_of_lt_of_le x27.lt n41.ge
          have g41 : w.heap.size ≤ b41 := Nat.le_trans E.size n41.ge
          have g41_E29 : w28.heap.size ≤ b41 := Nat.le_trans E29.size n41.ge
          replace hT := hT.nw n41.r
          replace ht := tape_rel ht n41.r (fun _ _ h => h)
          replace HX := HX.nw n41.r
          replace x4 := x4.nw n41.r
          replace HW := HW.nw n41.r
          replace x9 := x9.nw n41.r
          replace HM := HM.nw n41.r
          replace HV := HV.nw n41.r
          replace x27 := x27.nw n41.r
          replace E := E.then n41.r (fun _ _ h => h.elim)
          replace E29 := E29.then n41.r (fun _ _ h => h.elim)
          refine Sx.syu (u_stR ty27 rfl rfl rfl x41 rfl rfl) rfl (wnt0 rfl) ?_
          rintro w42 ⟨r42, z42, x42n⟩
          replace hT := hT.ch r42 (by omega)
          replace ht := tape_rel ht r42 (fun b hb (e : b = b41) => by omega)
          replace HX := HX.ch r42 (by omega)
          replace x4 := x4.ch r42 (by omega)
          replace HW := HW.ch r42 (by omega)
          replace x9 := x9.ch r42 (by omega)
          replace HM := HM.ch r42 (by omega)
          replace HV := HV.ch r42 (by omega)
          replace x27 := x27.ch r42 (by omega)
          replace E := E.then r42 (fun x hx (e : x = b41) => show w.heap.size ≤ x by omega)
          replace E29 := E29.then r42 (fun x hx (e : x = b41) => show x = b2 ∨ w28.heap.size ≤ x by omega)
          replace x41 := x42n; clear x42n
          refine Sx.sv (r_as rfl) rfl (wnt0 rfl) ?_
          refine Sx.sv (r_as rfl) rfl (wnt0 rfl) ?_
          refine Sx.sv (r_as rfl) rfl (wnt0 rfl) ?_
          refine wnil ?_
          refine Sx.nT ?_
          refine Sx.seq ?_
          refine Sx.seq ?_
          refine Sx.reg ?_
          refine Sx.sv (r_mv rfl) rfl (wnt0 rfl) ?_
          refine wnil ?_
          refine Sx.nT ?_
          refine Sx.blk ?_
          refine Sx.seq ?_
          refine Sx.reg ?_
          refine Sx.sv (r_eq rfl rfl) rfl (wnt0 rfl) ?_
          refine Sx.sv (r_as rfl) rfl (wnt0 rfl) ?_
          refine wnil ?_
          refine Sx.nT ?_
          refine Sx.cf rfl (decide_eq_false (by omega)) ?_
          refine Sx.seq ?_
          refine Sx.reg ?_
          refine Sx.sv (r_eq rfl rfl) rfl (wnt0 rfl) ?_
          refine Sx.sv (r_as rfl) rfl (wnt0 rfl) ?_
          refine wnil ?_
          refine Sx.nT ?_
          refine Sx.cf rfl (decide_eq_false (by omega)) ?_
          refine Sx.seq ?_
          refine Sx.reg ?_
          refine Sx.sv (r_eq rfl rfl) rfl (wnt0 rfl) ?_
          refine Sx.sv (r_as rfl) rfl (wnt0 rfl) ?_
          refine wnil ?_
          refine Sx.nT ?_
          refine Sx.ct rfl (decide_eq_true (by omega)) ?_
          refine Sx.reg ?_
          refine Sx.sv (r_mv rfl) rfl (wnt0 rfl) ?_
          refine Sx.sv (r_mv rfl) rfl (wnt0 rfl) ?_
          have tq43_ht := tape_lt ht
          refine Sx.sc (r_call en11 rfl) rfl (wnt0 rfl) (next_any b2 4 _ ht (by omega) (by omega)) ?_
          rintro e w43 ⟨z43, p43, q43, rfl, hg43, ht43⟩
          refine ⟨_, rfl, ?_⟩
          have r43 := Rel.ofT hg43
          replace hT := hT.ch r43 (by omega)
          replace HX := HX.ch r43 (by omega)
          replace x4 := x4.ch r43 (by omega)
          replace HW := HW.ch r43 (by omega)
          replace x9 := x9.ch r43 (by omega)
          replace HM := HM.ch r43 (by omega)
          replace HV := HV.ch r43 (by omega)
          replace x27 := x27.ch r43 (by omega)
          replace x41 := x41.ch r43 (by omega)
          replace E := E.then r43 (fun x hx (e : x = b2) => show w.heap.size ≤ x by omega)
          replace E29 := E29.then r43 (fun x hx (e : x = b2) => show x = b2 ∨ w28.heap.size ≤ x by omega)
          replace ht := ht43
          refine Sx.sv (r_add rfl rfl (by omega) (by omega)) rfl (wnt0 rfl) ?_
          refine Sx.sv (r_as rfl) rfl (wnt0 rfl) ?_
          refine wnil ?_
          refine Sx.nB ?_
          refine Sx.nT ?_
          refine Sx.seq ?_
          refine Sx.reg ?_
          refine Sx.sv (r_ldr ty27 rfl (x41.seg) rfl) rfl (wnt0 rfl) ?_
          refine Sx.sv (r_mv rfl) rfl (wnt0 rfl) ?_
          refine Sx.sv (r_mv rfl) rfl (wnt0 rfl) ?_
          refine Sx.sv (r_mv rfl) rfl (wnt0 rfl) ?_
          refine Sx.sv (r_mv rfl) rfl (wnt0 rfl) ?_
          have hu4 := rt4_up (wo := wo) (wo' := wo) (au := 1 + z8) (au' := (1 + (z8 + z43))) (by omega) (by omega) (by omega) (by omega)
          have tq44_ht := tape_lt ht
          refine Sx.sc (r_call en18 rfl) rfl (wnt0 rfl) (rate_yes2 x v ws Aw cw z7 (z8 + z43) false ws.length wo (1 + (z8 + z43)) _ (HX.ok.base (Nat.zero_le _)) (rfl) (HW.ok.base (Nat.zero_le _)) hok ⟨by omega, by omega⟩ hwn hws ⟨by omega, by omega⟩ hT hwo rfl) ?_
          rintro e w44 ⟨rfl, hb44⟩
          refine ⟨_, rfl, ?_⟩
          have r44 := Rel.of0 hb44
          replace hT := hT.nw r44
          replace ht := tape_rel ht r44 (fun _ _ h => h)
          replace HX := HX.nw r44
          replace x4 := x4.nw r44
          replace HW := HW.nw r44
          replace x9 := x9.nw r44
          replace HM := HM.nw r44
          replace HV := HV.nw r44
          replace x27 := x27.nw r44
          replace x41 := x41.nw r44
          replace E := E.then r44 (fun _ _ h => h.elim)
          replace E29 := E29.then r44 (fun _ _ h => h.elim)
          refine Sx.sv (r_mv rfl) rfl (wnt0 rfl) ?_
          refine Sx.sv (r_ex rfl rfl) rfl (wnt0 rfl) ?_
          refine Sx.sv (r_ex rfl rfl) rfl (wnt0 rfl) ?_
          refine Sx.sy (y_all zi47 rfl) rfl (wnt0 rfl) ?_
          rintro _ w45 ⟨b45, rfl, n45, x45⟩
          have l45_hT : 0 < b45 := Nat.lt_of_lt_of_le hT.lt n45.ge
          have l45_ht : b2 < b45 := Nat.lt_of_lt_of_le (tape_lt ht) n45.ge
          have l45_HX : w3.heap.size ≤ b45 := Nat.le_trans HX.le n45.ge
          have l45_x4 : b4 < b45 := Nat.lt_of_lt_of_le x4.lt n45.ge
          have l45_HW : w6.heap.size ≤ b45 := Nat.le_trans HW.le n45.ge
          have l45_x9 : b9 < b45 := Nat.lt_of_lt_of_le x9.lt n45.ge
          have l45_HM : w20.heap.size ≤ b45 := Nat.le_trans HM.le n45.ge
          have l45_HV : w25.heap.size ≤ b45 := Nat.le_trans HV.le n45.ge
          have l45_x27 : b27 < b45 := Nat.lt_of_lt_of_le x27.lt n45.ge
          have l45_x41 : b41 < b45 := Nat.lt_of_lt_of_le x41.lt n45.ge
          have g45 : w.heap.size ≤ b45 := Nat.le_trans E.size n45.ge
          have g45_E29 : w28.heap.size ≤ b45 := Nat.le_trans E29.size n45.ge
          replace hT := hT.nw n45.r
          replace ht := tape_rel ht n45.r (fun _ _ h => h)
          replace HX := HX.nw n45.r
          replace x4 := x4.nw n45.r
          replace HW := HW.nw n45.r
          replace x9 := x9.nw n45.r
          replace HM := HM.nw n45.r
          replace HV := HV.nw n45.r
          replace x27 := x27.nw n45.r
          replace x41 := x41.nw n45.r
          replace E := E.then n45.r (fun _ _ h => h.elim)
          replace E29 := E29.then n45.r (fun _ _ h => h.elim)
          refine Sx.syu (u_stR ty47 rfl rfl rfl x45 rfl rfl) rfl (wnt0 rfl) ?_
          rintro w46 ⟨r46, z46, x46n⟩
          replace hT := hT.ch r46 (by omega)
          replace ht := tape_rel ht r46 (fun b hb (e : b = b45) => by omega)
          replace HX := HX.ch r46 (by omega)
          replace x4 := x4.ch r46 (by omega)
          replace HW := HW.ch r46 (by omega)
          replace x9 := x9.ch r46 (by omega)
          replace HM := HM.ch r46 (by omega)
          replace HV := HV.ch r46 (by omega)
          replace x27 := x27.ch r46 (by omega)
          replace x41 := x41.ch r46 (by omega)
          replace E := E.then r46 (fun x hx (e : x = b45) => show w.heap.size ≤ x by omega)
          replace E29 := E29.then r46 (fun x hx (e : x = b45) => show x = b2 ∨ w28.heap.size ≤ x by omega)
          replace x45 := x46n; clear x46n
          refine Sx.sv (r_as rfl) rfl (wnt0 rfl) ?_
          refine wnil ?_
          refine Sx.nT ?_
          refine Sx.seq ?_
          refine Sx.reg ?_
          refine Sx.sv (r_mv rfl) rfl (wnt0 rfl) ?_
          refine Sx.sv (r_ne rfl rfl) rfl (wnt0 rfl) ?_
          refine Sx.sv (r_mv rfl) rfl (wnt0 rfl) ?_
          refine Sx.sv (r_mv rfl) rfl (wnt1 (dj := 113) (b0 := false) rfl rfl rfl rfl (decide_eq_false (by decide)) rfl) ?_
          refine Sx.sv (r_ne rfl rfl) rfl (wnt1 (dj := 113) (b0 := false) rfl rfl rfl rfl (decide_eq_false (by decide)) rfl) ?_
          refine Sx.sv (r_pkF rfl (decide_eq_false (by decide)) rfl) rfl (wnt0 rfl) ?_
          refine Sx.sv (r_mv rfl) rfl (wnt0 rfl) ?_
          refine Sx.sv (r_fa fo47_3 rfl) rfl (wnt1 (dj := 117) (b0 := false) rfl rfl rfl rfl (decide_eq_false (by decide)) rfl) ?_
          refine Sx.sv (r_ld ty3 rfl (x45.seg) rfl) rfl (wnt1 (dj := 117) (b0 := false) rfl rfl rfl rfl (decide_eq_false (by decide)) rfl) ?_
          refine Sx.sv (r_fa fo47_3 rfl) rfl (wnt1 (dj := 117) (b0 := false) rfl rfl rfl rfl (decide_eq_false (by decide)) rfl) ?_
          refine Sx.sv (r_ld ty3 rfl (x27.seg) rfl) rfl (wnt1 (dj := 117) (b0 := false) rfl rfl rfl rfl (decide_eq_false (by decide)) rfl) ?_
          refine Sx.sv (r_lt rfl rfl) rfl (wnt1 (dj := 117) (b0 := false) rfl rfl rfl rfl (decide_eq_false (by decide)) rfl) ?_
          refine Sx.sv (r_pkF rfl (decide_eq_false (by decide)) rfl) rfl (wnt0 rfl) ?_
          refine Sx.sv (r_mv rfl) rfl (wnt0 rfl) ?_
          refine Sx.sv (r_fa fo47_0 rfl) rfl (wnt1 (dj := 124) (b0 := false) rfl rfl rfl rfl (decide_eq_false (by omega)) rfl) ?_
          refine Sx.sv (r_ld ty3 rfl (x45.seg) rfl) rfl (wnt1 (dj := 124) (b0 := false) rfl rfl rfl rfl (decide_eq_false (by omega)) rfl) ?_
          refine Sx.sv (r_fa fo47_0 rfl) rfl (wnt1 (dj := 124) (b0 := false) rfl rfl rfl rfl (decide_eq_false (by omega)) rfl) ?_
          refine Sx.sv (r_ld ty3 rfl (x27.seg) rfl) rfl (wnt1 (dj := 124) (b0 := false) rfl rfl rfl rfl (decide_eq_false (by omega)) rfl) ?_
          refine Sx.sv (r_lt rfl rfl) rfl (wnt1 (dj := 124) (b0 := false) rfl rfl rfl rfl (decide_eq_false (by omega)) rfl) ?_
          refine Sx.sv (r_pkF rfl (decide_eq_false (by omega)) rfl) rfl (wnt0 rfl) ?_
          refine Sx.sv (r_mv rfl) rfl (wnt0 rfl) ?_
          refine Sx.sv (r_fa fo47_1 rfl) rfl (wnt1 (dj := 131) (b0 := false) rfl rfl rfl rfl (decide_eq_false (by omega)) rfl) ?_
          refine Sx.sv (r_ld ty3 rfl (x45.seg) rfl) rfl (wnt1 (dj := 131) (b0 := false) rfl rfl rfl rfl (decide_eq_false (by omega)) rfl) ?_
          refine Sx.sv (r_fa fo47_1 rfl) rfl (wnt1 (dj := 131) (b0 := false) rfl rfl rfl rfl (decide_eq_false (by omega)) rfl) ?_
          refine Sx.sv (r_ld ty3 rfl (x27.seg) rfl) rfl (wnt1 (dj := 131) (b0 := false) rfl rfl rfl rfl (decide_eq_false (by omega)) rfl) ?_
          refine Sx.sv (r_lt rfl rfl) rfl (wnt1 (dj := 131) (b0 := false) rfl rfl rfl rfl (decide_eq_false (by omega)) rfl) ?_
          refine Sx.sv (r_pkF rfl (decide_eq_false (by omega)) rfl) rfl (wnt0 rfl) ?_
          refine Sx.sv (r_mv rfl) rfl (wnt0 rfl) ?_
          refine Sx.sv (r_fa fo47_2 rfl) rfl (wnt1 (dj := 138) (b0 := false) rfl rfl rfl rfl (decide_eq_false (by omega)) rfl) ?_
          refine Sx.sv (r_ld ty3 rfl (x45.seg) rfl) rfl (wnt1 (dj := 138) (b0 := false) rfl rfl rfl rfl (decide_eq_false (by omega)) rfl) ?_
          refine Sx.sv (r_fa fo47_2 rfl) rfl (wnt1 (dj := 138) (b0 := false) rfl rfl rfl rfl (decide_eq_false (by omega)) rfl) ?_
          refine Sx.sv (r_ld ty3 rfl (x27.seg) rfl) rfl (wnt1 (dj := 138) (b0 := false) rfl rfl rfl rfl (decide_eq_false (by omega)) rfl) ?_
          refine Sx.sv (r_lt rfl rfl) rfl (wnt1 (dj := 138) (b0 := false) rfl rfl rfl rfl (decide_eq_false (by omega)) rfl) ?_
          refine Sx.sv (r_pkF rfl (decide_eq_false (by omega)) rfl) rfl (wnt0 rfl) ?_
          refine wnil ?_
          refine Sx.nT ?_
          refine Sx.cf rfl (decide_eq_false (by omega)) ?_
          refine wp_skip ?_
          refine Sx.nB ?_
          refine Sx.nT ?_
          refine Sx.reg ?_
          refine Sx.sv (r_mv rfl) rfl (wnt0 rfl) ?_
          refine Sx.sv (r_add rfl rfl (by omega) (by omega)) rfl (wnt0 rfl) ?_
          refine Sx.sv (r_as rfl) rfl (wnt0 rfl) ?_
          refine wnil ?_
          refine Sx.nT ?_
          exact Sx.lpe (i + 1) ⟨rfl, rfl, rfl, rfl, rfl, rfl, rfl, rfl, rfl, rfl, trivial⟩ ⟨E29, ht, hlt⟩ (show 4 - (i + 1) < 4 - i by omega)
        · refine wp_skip ?_
          refine Sx.nT ?_
          refine Sx.seq ?_
          refine Sx.blk ?_
          refine Sx.seq ?_
          refine Sx.reg ?_
          refine Sx.sv (r_ldr ty27 rfl (x4.seg) rfl) rfl (wnt0 rfl) ?_
          refine Sx.sv (r_mv rfl) rfl (wnt0 rfl) ?_
          refine Sx.sv (r_mv rfl) rfl (wnt0 rfl) ?_
          refine Sx.sy (y_all zi27 rfl) rfl (wnt0 rfl) ?_
          rintro _ w47 ⟨b47, rfl, n47, x47⟩
          have l47_hT : 0 < b47 := Nat.lt_of_lt_of_le hT.lt n47.ge
          have l47_ht : b2 < b47 := Nat.lt_of_lt_of_le (tape_lt ht) n47.ge
          have l47_HX : w3.heap.size ≤ b47 := Nat.le_trans HX.le n47.ge
          have l47_x4 : b4 < b47 := Nat.lt_of_lt_of_le x4.lt n47.ge
          have l47_HW : w6.heap.size ≤ b47 := Nat.le_trans HW.le n47.ge
          have l47_x9 : b9 < b47 := Nat.lt_of_lt_of_le x9.lt n47.ge
          have l47_HM : w20.heap.size ≤ b47 := Nat.le_trans HM.le n47.ge
          have l47_HV : w25.heap.size ≤ b47 := Nat.le_trans HV.le n47.ge
          have l47_x27 : b27 < b47 := Nat.lt_of_lt_of_le x27.lt n47.ge
          have g47 : w.heap.size ≤ b47 := Nat.le_trans E.size n47.ge
          have g47_E29 : w28.heap.size ≤ b47 := Nat.le_trans E29.size n47.ge
          replace hT := hT.nw n47.r
          replace ht := tape_rel ht n47.r (fun _ _ h => h)
          replace HX := HX.nw n47.r
          replace x4 := x4.nw n47.r
          replace HW := HW.nw n47.r
          replace x9 := x9.nw n47.r
          replace HM := HM.nw n47.r
          replace HV := HV.nw n47.r
          replace x27 := x27.nw n47.r
          replace E := E.then n47.r (fun _ _ h => h.elim)
          replace E29 := E29.then n47.r (fun _ _ h => h.elim)
          refine Sx.syu (u_stR ty27 rfl rfl rfl x47 rfl rfl) rfl (wnt0 rfl) ?_
          rintro w48 ⟨r48, z48, x48n⟩
          replace hT := hT.ch r48 (by omega)
          replace ht := tape_rel ht r48 (fun b hb (e : b = b47) => by omega)
          replace HX := HX.ch r48 (by omega)
          replace x4 := x4.ch r48 (by omega)
          replace HW := HW.ch r48 (by omega)
          replace x9 := x9.ch r48 (by omega)
          replace HM := HM.ch r48 (by omega)
          replace HV := HV.ch r48 (by omega)
          replace x27 := x27.ch r48 (by omega)
          replace E := E.then r48 (fun x hx (e : x = b47) => show w.heap.size ≤ x by omega)
          replace E29 := E29.then r48 (fun x hx (e : x = b47) => show x = b2 ∨ w28.heap.size ≤ x by omega)
          replace x47 := x48n; clear x48n
          refine Sx.sv (r_as rfl) rfl (wnt0 rfl) ?_
          refine Sx.sv (r_as rfl) rfl (wnt0 rfl) ?_
          refine Sx.sv (r_as rfl) rfl (wnt0 rfl) ?_
          refine wnil ?_
          refine Sx.nT ?_
          refine Sx.seq ?_
          refine Sx.seq ?_
          refine Sx.reg ?_
          refine Sx.sv (r_mv rfl) rfl (wnt0 rfl) ?_
          refine wnil ?_
          refine Sx.nT ?_
          refine Sx.blk ?_
          refine Sx.seq ?_
          refine Sx.reg ?_
          refine Sx.sv (r_eq rfl rfl) rfl (wnt0 rfl) ?_
          refine Sx.sv (r_as rfl) rfl (wnt0 rfl) ?_
          refine wnil ?_
          refine Sx.nT ?_
          refine Sx.cf rfl (decide_eq_false (by omega)) ?_
          refine Sx.seq ?_
          refine Sx.reg ?_
          refine Sx.sv (r_eq rfl rfl) rfl (wnt0 rfl) ?_
          refine Sx.sv (r_as rfl) rfl (wnt0 rfl) ?_
          refine wnil ?_
          refine Sx.nT ?_
          refine Sx.cf rfl (decide_eq_false (by omega)) ?_
          refine Sx.seq ?_
          refine Sx.reg ?_
          refine Sx.sv (r_eq rfl rfl) rfl (wnt0 rfl) ?_
          refine Sx.sv (r_as rfl) rfl (wnt0 rfl) ?_
          refine wnil ?_
          refine Sx.nT ?_
          refine Sx.cf rfl (decide_eq_false (by omega)) ?_
          refine Sx.reg ?_
          refine Sx.sv (r_as rfl) rfl (wnt0 rfl) ?_
          refine wnil ?_
          refine Sx.nB ?_
          refine Sx.nT ?_
          refine Sx.seq ?_
          refine Sx.reg ?_
          refine Sx.sv (r_ldr ty27 rfl (x47.seg) rfl) rfl (wnt0 rfl) ?_
          refine Sx.sv (r_mv rfl) rfl (wnt0 rfl) ?_
          refine Sx.sv (r_mv rfl) rfl (wnt0 rfl) ?_
          refine Sx.sv (r_mv rfl) rfl (wnt0 rfl) ?_
          refine Sx.sv (r_mv rfl) rfl (wnt0 rfl) ?_
          have hu4 := rt4_up (wo := wo) (wo' := wo) (au := 1 + z8) (au' := 100) (by omega) (by omega) (by omega) (by omega)
          have tq49_ht := tape_lt ht
          refine Sx.sc (r_call en18 rfl) rfl (wnt0 rfl) (rate_yes2 x v ws Aw cw z7 z8 true ws.length wo 100 _ (HX.ok.base (Nat.zero_le _)) (rfl) (HW.ok.base (Nat.zero_le _)) hok ⟨by omega, by omega⟩ hwn hws ⟨by omega, by omega⟩ hT hwo rfl) ?_
          rintro e w49 ⟨rfl, hb49⟩
          refine ⟨_, rfl, ?_⟩
          have r49 := Rel.of0 hb49
          replace hT := hT.nw r49
          replace ht := tape_rel ht r49 (fun _ _ h => h)
          replace HX := HX.nw r49
          replace x4 := x4.nw r49
          replace HW := HW.nw r49
          replace x9 := x9.nw r49
          replace HM := HM.nw r49
          replace HV := HV.nw r49
          replace x27 := x27.nw r49
          replace x47 := x47.nw r49
          replace E := E.then r49 (fun _ _ h => h.elim)
          replace E29 := E29.then r49 (fun _ _ h => h.elim)
          refine Sx.sv (r_mv rfl) rfl (wnt0 rfl) ?_
          refine Sx.sv (r_ex rfl rfl) rfl (wnt0 rfl) ?_
          refine Sx.sv (r_ex rfl rfl) rfl (wnt0 rfl) ?_
          refine Sx.sy (y_all zi47 rfl) rfl (wnt0 rfl) ?_
          rintro _ w50 ⟨b50, rfl, n50, x50⟩
          have l50_hT : 0 < b50 := Nat.lt_of_lt_of_le hT.lt n50.ge
          have l50_ht : b2 < b50 := Nat.lt_of_lt_of_le (tape_lt ht) n50.ge
          have l50_HX : w3.heap.size ≤ b50 := Nat.le_trans HX.le n50.ge
          have l50_x4 : b4 < b50 := Nat.lt_of_lt_of_le x4.lt n50.ge
          have l50_HW : w6.heap.size ≤ b50 := Nat.le_trans HW.le n50.ge
          have l50_x9 : b9 < b50 := Nat.lt_of_lt_of_le x9.lt n50.ge
          have l50_HM : w20.heap.size ≤ b50 := Nat.le_trans HM.le n50.ge
          have l50_HV : w25.heap.size ≤ b50 := Nat.le_trans HV.le n50.ge
          have l50_x27 : b27 < b50 := Nat.lt_of_lt_of_le x27.lt n50.ge
          have l50_x47 : b47 < b50 := Nat.lt_of_lt_of_le x47.lt n50.ge
          have g50 : w.heap.size ≤ b50 := Nat.le_trans E.size n50.ge
          have g50_E29 : w28.heap.size ≤ b50 := Nat.le_trans E29.size n50.ge
          replace hT := hT.nw n50.r
          replace ht := tape_rel ht n50.r (fun _ _ h => h)
          replace HX := HX.nw n50.r
          replace x4 := x4.nw n50.r
          replace HW := HW.nw n50.r
          replace x9 := x9.nw n50.r
          replace HM := HM.nw n50.r
          replace HV := HV.nw n50.r
          replace x27 := x27.nw n50.r
          replace x47 := x47.nw n50.r
          replace E := E.then n50.r (fun _ _ h => h.elim)
          replace E29 := E29.then n50.r (fun _ _ h => h.elim)
          refine Sx.syu (u_stR ty47 rfl rfl rfl x50 rfl rfl) rfl (wnt0 rfl) ?_
          rintro w51 ⟨r51, z51, x51n⟩
          replace hT := hT.ch r51 (by omega)
          replace ht := tape_rel ht r51 (fun b hb (e : b = b50) => by omega)
          replace HX := HX.ch r51 (by omega)
          replace x4 := x4.ch r51 (by omega)
          replace HW := HW.ch r51 (by omega)
          replace x9 := x9.ch r51 (by omega)
          replace HM := HM.ch r51 (by omega)
          replace HV := HV.ch r51 (by omega)
          replace x27 := x27.ch r51 (by omega)
          replace x47 := x47.ch r51 (by omega)
          replace E := E.then r51 (fun x hx (e : x = b50) => show w.heap.size ≤ x by omega)
          replace E29 := E29.then r51 (fun x hx (e : x = b50) => show x = b2 ∨ w28.heap.size ≤ x by omega)
          replace x50 := x51n; clear x51n
          refine Sx.sv (r_as rfl) rfl (wnt0 rfl) ?_
          refine wnil ?_
          refine Sx.nT ?_
          refine Sx.seq ?_
          refine Sx.reg ?_
          refine Sx.sv (r_mv rfl) rfl (wnt0 rfl) ?_
          refine Sx.sv (r_ne rfl rfl) rfl (wnt0 rfl) ?_
          refine Sx.sv (r_mv rfl) rfl (wnt0 rfl) ?_
          refine Sx.sv (r_mv rfl) rfl (wnt1 (dj := 113) (b0 := false) rfl rfl rfl rfl (decide_eq_false (by decide)) rfl) ?_
          refine Sx.sv (r_ne rfl rfl) rfl (wnt1 (dj := 113) (b0 := false) rfl rfl rfl rfl (decide_eq_false (by decide)) rfl) ?_
          refine Sx.sv (r_pkF rfl (decide_eq_false (by decide)) rfl) rfl (wnt0 rfl) ?_
          refine Sx.sv (r_mv rfl) rfl (wnt0 rfl) ?_
          refine Sx.sv (r_fa fo47_3 rfl) rfl (wnt1 (dj := 117) (b0 := false) rfl rfl rfl rfl (decide_eq_false (by decide)) rfl) ?_
          refine Sx.sv (r_ld ty3 rfl (x50.seg) rfl) rfl (wnt1 (dj := 117) (b0 := false) rfl rfl rfl rfl (decide_eq_false (by decide)) rfl) ?_
          refine Sx.sv (r_fa fo47_3 rfl) rfl (wnt1 (dj := 117) (b0 := false) rfl rfl rfl rfl (decide_eq_false (by decide)) rfl) ?_
          refine Sx.sv (r_ld ty3 rfl (x27.seg) rfl) rfl (wnt1 (dj := 117) (b0 := false) rfl rfl rfl rfl (decide_eq_false (by decide)) rfl) ?_
          refine Sx.sv (r_lt rfl rfl) rfl (wnt1 (dj := 117) (b0 := false) rfl rfl rfl rfl (decide_eq_false (by decide)) rfl) ?_
          refine Sx.sv (r_pkF rfl (decide_eq_false (by decide)) rfl) rfl (wnt0 rfl) ?_
          refine Sx.sv (r_mv rfl) rfl (wnt0 rfl) ?_
          refine Sx.sv (r_fa fo47_0 rfl) rfl (wnt1 (dj := 124) (b0 := false) rfl rfl rfl rfl (decide_eq_false (by omega)) rfl) ?_
          refine Sx.sv (r_ld ty3 rfl (x50.seg) rfl) rfl (wnt1 (dj := 124) (b0 := false) rfl rfl rfl rfl (decide_eq_false (by omega)) rfl) ?_
          refine Sx.sv (r_fa fo47_0 rfl) rfl (wnt1 (dj := 124) (b0 := false) rfl rfl rfl rfl (decide_eq_false (by omega)) rfl) ?_
          refine Sx.sv (r_ld ty3 rfl (x27.seg) rfl) rfl (wnt1 (dj := 124) (b0 := false) rfl rfl rfl rfl (decide_eq_false (by omega)) rfl) ?_
          refine Sx.sv (r_lt rfl rfl) rfl (wnt1 (dj := 124) (b0 := false) rfl rfl rfl rfl (decide_eq_false (by omega)) rfl) ?_
          refine Sx.sv (r_pkF rfl (decide_eq_false (by omega)) rfl) rfl (wnt0 rfl) ?_
          refine Sx.sv (r_mv rfl) rfl (wnt0 rfl) ?_
          refine Sx.sv (r_fa fo47_1 rfl) rfl (wnt1 (dj := 131) (b0 := false) rfl rfl rfl rfl (decide_eq_false (by omega)) rfl) ?_
          refine Sx.sv (r_ld ty3 rfl (x50.seg) rfl) rfl (wnt1 (dj := 131) (b0 := false) rfl rfl rfl rfl (decide_eq_false (by omega)) rfl) ?_
          refine Sx.sv (r_fa fo47_1 rfl) rfl (wnt1 (dj := 131) (b0 := false) rfl rfl rfl rfl (decide_eq_false (by omega)) rfl) ?_
          refine Sx.sv (r_ld ty3 rfl (x27.seg) rfl) rfl (wnt1 (dj := 131) (b0 := false) rfl rfl rfl rfl (decide_eq_false (by omega)) rfl) ?_
          refine Sx.sv (r_lt rfl rfl) rfl (wnt1 (dj := 131) (b0 := false) rfl rfl rfl rfl (decide_eq_false (by omega)) rfl) ?_
          refine Sx.sv (r_pkF rfl (decide_eq_false (by omega)) rfl) rfl (wnt0 rfl) ?_
          refine Sx.sv (r_mv rfl) rfl (wnt0 rfl) ?_
          refine Sx.sv (r_fa fo47_2 rfl) rfl (wnt1 (dj := 138) (b0 := false) rfl rfl rfl rfl (decide_eq_false (by omega)) rfl) ?_
          refine Sx.sv (r_ld ty3 rfl (x50.seg) rfl) rfl (wnt1 (dj := 138) (b0 := false) rfl rfl rfl rfl (decide_eq_false (by omega)) rfl) ?_
          refine Sx.sv (r_fa fo47_2 rfl) rfl (wnt1 (dj := 138) (b0 := false) rfl rfl rfl rfl (decide_eq_false (by omega)) rfl) ?_
          refine Sx.sv (r_ld ty3 rfl (x27.seg) rfl) rfl (wnt1 (dj := 138) (b0 := false) rfl rfl rfl rfl (decide_eq_false (by omega)) rfl) ?_
          refine Sx.sv (r_lt rfl rfl) rfl (wnt1 (dj := 138) (b0 := false) rfl rfl rfl rfl (decide_eq_false (by omega)) rfl) ?_
          refine Sx.sv (r_pkF rfl (decide_eq_false (by omega)) rfl) rfl (wnt0 rfl) ?_
          refine wnil ?_
          refine Sx.nT ?_
          refine Sx.cf rfl (decide_eq_false (by omega)) ?_
          refine wp_skip ?_
          refine Sx.nB ?_
          refine Sx.nT ?_
          refine Sx.reg ?_
          refine Sx.sv (r_mv rfl) rfl (wnt0 rfl) ?_
          refine Sx.sv (r_add rfl rfl (by omega) (by omega)) rfl (wnt0 rfl) ?_
          refine Sx.sv (r_as rfl) rfl (wnt0 rfl) ?_
          refine wnil ?_
          refine Sx.nT ?_
          exact Sx.lpe (i + 1) ⟨rfl, rfl, rfl, rfl, rfl, rfl, rfl, rfl, rfl, rfl, trivial⟩ ⟨E29, ht, hlt⟩ (show 4 - (i + 1) < 4 - i by omega)
      · refine Sx.cf rfl (decide_eq_false (by omega)) ?_
        refine wp_exit ?_
        refine Sx.eT ?_
        refine Sx.eT ?_
        refine Sx.eB ?_
        refine Sx.nT ?_
        refine Sx.seq ?_
        refine Sx.reg ?_
        have tq52_ht := tape_lt ht
        refine Sx.sc (r_call en8 rfl) rfl (wnt0 rfl) (awake_any _ hT) ?_
        rintro e w52 ⟨rfl, hb52⟩
        refine ⟨_, rfl, ?_⟩
        have r52 := Rel.of0 hb52
        replace hT := hT.nw r52
        replace ht := tape_rel ht r52 (fun _ _ h => h)
        replace HX := HX.nw r52
        replace x4 := x4.nw r52
        replace HW := HW.nw r52
        replace x9 := x9.nw r52
        replace HM := HM.nw r52
        replace HV := HV.nw r52
        replace x27 := x27.nw r52
        replace E := E.then r52 (fun _ _ h => h.elim)
        refine Sx.sv (r_as rfl) rfl (wnt0 rfl) ?_
        refine wnil ?_
        refine Sx.nT ?_
        refine wp_ret ?_
        exact Sx.ret1 Tryd.results4 rfl ⟨rfl, E.toB0⟩

/-! ### THE ROW's STEP: WRITTEN OUT: LEAVE IT -/
set_option maxRecDepth 100000 in
theorem lifted (os : Os) (started : os.Started) (H : Type) (enc : TypeId × Value → H) :
    ReturnsInHanded {} Tryd.checked os 4 .any (fun w args => (Rows.severityGrowsSpec.pre enc Tryd.prog Tryd.f4 [] false w args ∧ laidMetH Tryd.prog laidL w) ∧ sizedMet enc Tryd.prog Tryd.f4 (OpenSpec.ofChange Rows.severityGrowsSpec) false w args) (Rows.severityGrowsSpec.post enc Tryd.prog Tryd.f4 false true false false) := by
  refine returnsInHanded_of_change_and (C := Tryd.checked) (X := fun w _ => laidMetH Tryd.prog laidL w) (fun _ _ _ hh h => h.of_heap hh) own started (by kernel_rfl) Tryd.func4
    (ChangeSpec.witness_shaped (enc := enc) (C := Tryd.checked) (os := os) (X := fun w _ => laidMetH Tryd.prog laidL w) false (World.doorLaid Tryd.prog 400 os) #[.slice none 0 0] 8 rfl (World.shaped_of_RefB (by kernel_rfl) (by kernel_rfl)) (by kernel_rfl) (by kernel_rfl) (by kernel_rfl) (door_met os _)) ?_
  intro W base args ds gs before hval0 hW _ _ hL _
  have hval : ∀ (j : Nat) t v, Tryd.f4.params[j]? = some t → args[j]? = some v → Value.okWide Tryd.prog W .any base t v := hval0
  have hW' := hW
  obtain ⟨p, q, hA0, hV, rfl, hfz, hnd⟩ := hW
  have hA : DataW.TrodAll enc Tryd.prog W 0 (fun _ => true) true Tryd.f4.params.toList args.toList ds p := hA0
  rw [Tryd.params4] at hA hval
  obtain ⟨v0, vs0, d0, ds0, p0, q0, hargs, rfl, rfl, h0, r0⟩ := trodAll_cons hA
  obtain ⟨rfl, rfl, rfl⟩ := trodAll_nil r0
  obtain rfl : args = #[v0] := by cases args; simp_all
  obtain ⟨rfl, rfl⟩ := trodVars_none hV
  obtain ⟨a0, len0, cap0, rfl⟩ := okWide_slice Tryd.underlying22 (hval 0 22 v0 rfl rfl)
  have k0 := h0
  have lt0 : ∀ x ∈ p0, x.block < W.heap.size := by obtain ⟨m, hm⟩ := k0; exact DataW.trod_lt m _ _ _ hm
  obtain ⟨z0, w0⟩ : ∃ zs, IsRow .i64 W a0 len0 cap0 zs := by
    obtain ⟨fuel, hf⟩ := h0
    rcases open_ints Tryd.underlying22 Tryd.underlying3 (by kernel_rfl) hf with ⟨hcs, _⟩ | ⟨x, l, c, zs, hcs, _, hl, hm, hz, _, hcell, hwz⟩
    · simp [Value.cells] at hcs
      obtain ⟨rfl, rfl, rfl⟩ := hcs
      exact ⟨[], .inl ⟨rfl, rfl, rfl, rfl⟩⟩
    · simp [Value.cells] at hcs
      obtain ⟨rfl, rfl, rfl⟩ := hcs
      exact ⟨zs, .inr ⟨_, rfl, hl, hm, by simpa using hz, hcell, hwz⟩⟩
  clear hA0 hval0
  refine (walk a0 len0 cap0 z0 W w0 (tb_of hL)).mono fun e W' ⟨he, bel⟩ => ?_
  subst he
  exact ⟨_, rfl, _, _, _, [], _, [], hW', trodAll_mk1 (shut_bool Tryd.underlying4 _), (trodAll_cons_mk (Below.trod laidOut (by kernel_rfl) (of_decide_eq_true (by kernel_rfl)) k0 bel lt0) trodAll_mk0), rfl, bel.frame _, fun h => by cases h⟩

theorem over : Rows.severityGrowsRow.holds Tryd.pinned (OpenSpec.ofChange Rows.severityGrowsSpec) :=
  OpenClaim.holds_of_wide 4 Tryd.f4 rfl rfl rfl rfl rfl rfl rfl ⟨rfl, rfl, rfl, rfl, rfl⟩ rfl rfl rfl rfl rfl (by kernel_rfl) Tryd.func4 (by kernel_rfl)
    (of_decide_eq_true (by kernel_rfl)) (by unfold Func.isWrapper; first | (rw [if_pos (by decide +kernel)]; kernel_rfl) | (rw [if_neg (by decide +kernel)]; exact ⟨rfl, rfl⟩))
    (fun os started H enc _ => lifted os started H enc)

/-- ████ THE STATEMENT ████ -/
theorem proved : Rows.SeverityGrowsSaid := over
#print axioms proved

/-- ████ THE TIED CARD ████ -/
theorem card : Rows.SeverityGrowsCardSaid :=
  Claim7.holds_tied_plain_at .later [] [.data] true (true, "ad4c5ca6948ed5b51ad57fd7c7d256d481063a317f6ff24e3cac6c2ca41a9d77") false
    proved (fun _ h => by cases h) (by kernel_rfl) (fun _ h => by cases h) severityGrows_row_tie rfl ⟨rfl, rfl⟩ (by kernel_rfl) rfl
    (fun f fn hf hfn => by
      obtain rfl : f = 4 := Option.some.inj ((show Tryd.prog.funcNamed "leakresponse/leakresponselaw31.SeverityGrows" = some 4 by kernel_rfl).symm.trans hf) |>.symm
      obtain rfl : fn = Tryd.f4 := (Option.some.inj (Tryd.func4.symm.trans hfn)).symm
      exact ⟨by kernel_rfl, fun j t ht => by
        rw [Tryd.params4] at ht
        have hm : t ∈ [22] := by simpa using Array.mem_of_getElem? ht
        have hall : ([22].all fun u => !Tryd.prog.wantsStandIn u) = true := by kernel_rfl
        exact (show Tryd.prog.wantsStandIn t = false by simpa using List.all_eq_true.1 hall t hm)⟩)
    (by kernel_rfl)
#print axioms card
end Go.Proofs.YtahggnlmabdbbaaDoor.severityGrows
