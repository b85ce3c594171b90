/-
  The Go function leakresponse/leakresponselaw25.RightsGrow returns true for every list of numbers, and leaves what was there as it was; no conditions. A grant, a store or a mint more never lessens a power, and what a credential reaches has no more power than it.
-/
import Derived.Test.YtahggnlmabdbbaaLwF
import Derived.Test.YtahggnlmabdbbaaRows
namespace Go.Proofs.Ytahggnlmabdbbaa.rightsGrow
open Go.ChangeShapes Go.WideShapes Go.ChangeAt Go.RowKit Go.Shelf Go.Maps
open Go.ChangeMaps (open_string shut_string)
open Go.Proofs.Ytahggnlmabdbbaa.Tp
open Go.Proofs.Ytahggnlmabdbbaa.Di
open Go.Proofs.Ytahggnlmabdbbaa.Sx
set_option linter.unusedVariables false

/-- Rights with more at their ends. -/
structure Ext (x m : Rt) : Prop where
  c : m.c = x.c
  k : m.k = x.k
  g : ∃ t, m.g = x.g ++ t
  s : ∃ t, m.s = x.s ++ t
  m : ∃ t, m.m = x.m ++ t
theorem e3_pre {l t : List T3} {j : Nat} (h : j < l.length) : e3 (l ++ t) j = e3 l j := by
  unfold e3; rw [List.getD_eq_getElem?_getD, List.getD_eq_getElem?_getD, List.getElem?_append_left h]
theorem e2_pre {l t : List T2} {j : Nat} (h : j < l.length) : e2 (l ++ t) j = e2 l j := by
  unfold e2; rw [List.getD_eq_getElem?_getD, List.getD_eq_getElem?_getD, List.getElem?_append_left h]
theorem Ext.st {x m : Rt} (h : Ext x m) {y : Int} {e : T5} (hs : IsSt x y e) : IsSt m y e := by
  obtain ⟨tg, hg⟩ := h.g
  obtain ⟨ts, hss⟩ := h.s
  obtain ⟨tm, hm⟩ := h.m
  rcases hs with ⟨n, h1, h2, rfl⟩ | ⟨i, n, h1, h2, h3, h4, rfl⟩
  · refine .inl ⟨n, by rw [hm, List.length_append]; omega, by rw [hm, e2_pre h1]; exact h2, by rw [hm, e2_pre h1]⟩
  · refine .inr ⟨i, n, by rw [hg, List.length_append]; omega, by rw [hss, List.length_append]; omega, by rw [hg, e3_pre h1]; exact h3, by rw [hg, hss, e3_pre h1, e2_pre h2]; exact h4, by rw [hss, e2_pre h2]⟩
theorem Ext.rch {x m : Rt} (h : Ext x m) {c y : Int} (hr : Rch x c y) : Rch m c y := by
  obtain ⟨l, hl⟩ := hr
  refine ⟨l, ?_⟩
  induction hl with
  | nil => exact .nil
  | snoc _ he ih => exact ih.snoc (h.st he)
theorem gt_up {x : Rt} (S : Int → Bool) (r : Int) (n : Nat) : ∀ d, gt x S r n ≤ gt x S r (n + d)
  | 0 => Int.le_refl _
  | d + 1 => by
    have ih := gt_up (x := x) S r n d
    rw [← Nat.add_assoc, gt]
    split
    · omega
    · exact ih
theorem gt_pre {x m : Rt} {t : List T3} (hg : m.g = x.g ++ t) (S : Int → Bool) (r : Int) : ∀ n, n ≤ x.g.length → gt m S r n = gt x S r n
  | 0, _ => rfl
  | n + 1, h => by rw [gt, gt, gt_pre hg S r n (by omega), hg, e3_pre (by omega)]
theorem Ext.gt {x m : Rt} (h : Ext x m) {c : Int} (r : Int) : gt x (rB x c) r x.g.length ≤ Di.gt m (rB m c) r m.g.length := by
  obtain ⟨t, hg⟩ := h.g
  have h1 := gt_mono (x := x) (S := rB x c) (S' := rB m c) (fun y hy => rB_iff.2 (h.rch (rB_iff.1 hy))) r x.g.length
  rw [← gt_pre hg (rB m c) r x.g.length (Nat.le_refl _)] at h1
  have h2 := gt_up (x := m) (rB m c) r x.g.length t.length
  rw [hg, List.length_append]
  omega
theorem gt_reach {x : Rt} {c y : Int} (h : Rch x c y) (r : Int) : Di.gt x (rB x y) r x.g.length ≤ Di.gt x (rB x c) r x.g.length :=
  gt_mono (fun z hz => rB_iff.2 (h.trans (rB_iff.1 hz))) r _
theorem e3_mem {l : List T3} {j : Nat} (h : j < l.length) : e3 l j ∈ l := by
  unfold e3; rw [List.getD_eq_getElem?_getD, List.getElem?_eq_getElem h]; exact List.getElem_mem h
theorem e2_mem {l : List T2} {j : Nat} (h : j < l.length) : e2 l j ∈ l := by
  unfold e2; rw [List.getD_eq_getElem?_getD, List.getElem?_eq_getElem h]; exact List.getElem_mem h
theorem ok_of {x : Rt} (h1 : 0 ≤ x.c ∧ x.c ≤ 24) (h2 : 0 ≤ x.k ∧ x.k ≤ 24) (h3 : x.g.length ≤ 100) (h4 : x.s.length ≤ 100) (h5 : x.m.length ≤ 100) (hg : ∀ y ∈ x.g, okG3 x.c x.k y) (hs : ∀ y ∈ x.s, okS2 x.c x.k y) (hm : ∀ y ∈ x.m, okM2 x.c y) : Rok x :=
  ⟨h1.1, h1.2, h2.1, h2.2, h3, h4, h5, fun j hj => hg _ (e3_mem hj), fun j hj => hs _ (e2_mem hj), fun j hj => hm _ (e2_mem hj)⟩
set_option maxRecDepth 100000 in
set_option maxHeartbeats 16000000 in
theorem walk (a0 : Option Addr) (len0 cap0 : Nat) (z0 : List Int) (w : World) (w0 : IsRow .i64 w a0 len0 cap0 z0) :
    Calls Try.prog 4 #[.slice a0 len0 cap0] w fun e w' => e = .returned (.bool true) ∧ Below w.heap.size w w' := by
  have hm0 := w0.at_.1
  unfold maxLen at hm0
  have E : Rel (fun x => w.heap.size ≤ x) w w := Rel.refl _ _
  refine Sx.enter Try.func4 rfl Try.ntmps4 rfl (fun fr => ?_)
  refine Sx.seq ?_
  refine Sx.reg ?_
  refine Sx.sv (r_as rfl) rfl (wnt0 rfl) ?_
  refine wnil ?_
  refine Sx.nT ?_
  refine Sx.seq ?_
  refine Sx.seq ?_
  refine Sx.reg ?_
  refine Sx.sv (r_mv rfl) rfl (wnt0 rfl) ?_
  refine Sx.sv (r_ln Try.underlying22 rfl) rfl (wnt0 rfl) ?_
  refine Sx.sv (r_gt rfl rfl) rfl (wnt0 rfl) ?_
  refine wnil ?_
  refine Sx.nT ?_
  by_cases hlen : 300 < len0
  · refine Sx.ct rfl (decide_eq_true (by omega)) ?_
    refine Sx.seq ?_
    refine Sx.reg ?_
    refine Sx.sc (r_call en7 rfl) rfl (wnt0 rfl) (awake_any _) ?_
    rintro e w1 ⟨rfl, hb1⟩
    refine ⟨_, rfl, ?_⟩
    have r1 := Rel.of0 hb1
    replace E := E.then r1 (fun _ _ h => h.elim)
    refine Sx.sv (r_as rfl) rfl (wnt0 rfl) ?_
    refine wnil ?_
    refine Sx.nT ?_
    refine wp_ret ?_
    refine Sx.rT ?_
    exact Sx.ret1 Try.results4 rfl ⟨rfl, E.toB0⟩
  · skip
    refine Sx.cf rfl (decide_eq_false (by omega)) ?_
    refine wp_skip ?_
    refine Sx.nT ?_
    refine Sx.seq ?_
    refine Sx.reg ?_
    refine Sx.sv (r_mv rfl) rfl (wnt0 rfl) ?_
    refine Sx.sv (r_bld rfl (bd26_0 _ _ _)) rfl (wnt0 rfl) ?_
    refine Sx.sy (y_box rfl rfl) rfl (wnt0 rfl) ?_
    rintro _ w2 ⟨b2, rfl, n2, x2⟩
    have g2 : w.heap.size ≤ b2 := Nat.le_trans E.size n2.ge
    replace E := E.then n2.r (fun _ _ h => h.elim)
    refine Sx.sv (r_as rfl) rfl (wnt0 rfl) ?_
    refine wnil ?_
    refine Sx.nT ?_
    refine Sx.seq ?_
    refine Sx.reg ?_
    refine Sx.sv (r_mv rfl) rfl (wnt0 rfl) ?_
    have ht := tape_of w0 n2 x2
    have lT := x2.lt
    have tq3_ht := tape_lt ht
    refine Sx.sc (r_call en8 rfl) rfl (wnt0 rfl) (rights_any b2 _ ht lT) ?_
    rintro e w3 ⟨x, v, rfl, hmk, hrl, hg3, ht3⟩
    refine ⟨_, rfl, ?_⟩
    have r3 := Rel.ofT hg3
    replace E := E.then r3 (fun x hx (e : x = b2) => show w.heap.size ≤ x by omega)
    replace ht := ht3
    have HX := Has.rl hrl
    have hW1 := r3.size
    have hok := hmk.ok
    have hc1 := hmk.c1
    have hc6 := hmk.c6
    have hk1 := hmk.k1
    have hk5 := hmk.k5
    have hg7 := hmk.g7
    have hs4 := hmk.s4
    have hm3 := hmk.m3
    have hsz : szs x := ⟨by omega, by omega, by omega⟩
    refine Sx.sy (y_all zi31 rfl) rfl (wnt0 rfl) ?_
    rintro _ w4 ⟨b4, rfl, n4, x4⟩
    have l4_ht : b2 < b4 := Nat.lt_of_lt_of_le (tape_lt ht) n4.ge
    have l4_HX : w3.heap.size ≤ b4 := Nat.le_trans HX.le n4.ge
    have g4 : w.heap.size ≤ b4 := Nat.le_trans E.size n4.ge
    replace ht := tape_rel ht n4.r (fun _ _ h => h)
    replace HX := HX.nw n4.r
    replace E := E.then n4.r (fun _ _ h => h.elim)
    refine Sx.syu (u_stR ty31 rfl rfl rfl x4 rfl rfl) rfl (wnt0 rfl) ?_
    rintro w5 ⟨r5, z5, x5n⟩
    replace ht := tape_rel ht r5 (fun b hb (e : b = b4) => by omega)
    replace HX := HX.ch r5 (by omega)
    replace E := E.then r5 (fun x hx (e : x = b4) => show w.heap.size ≤ x by omega)
    replace x4 := x5n; clear x5n
    refine wnil ?_
    refine Sx.nT ?_
    refine Sx.seq ?_
    refine Sx.reg ?_
    refine Sx.sv (r_ldr ty31 rfl (x4.seg) rfl) rfl (wnt0 rfl) ?_
    refine Sx.sy (y_all zi31 rfl) rfl (wnt0 rfl) ?_
    rintro _ w6 ⟨b6, rfl, n6, x6⟩
    have l6_ht : b2 < b6 := Nat.lt_of_lt_of_le (tape_lt ht) n6.ge
    have l6_HX : w3.heap.size ≤ b6 := Nat.le_trans HX.le n6.ge
    have l6_x4 : b4 < b6 := Nat.lt_of_lt_of_le x4.lt n6.ge
    have g6 : w.heap.size ≤ b6 := Nat.le_trans E.size n6.ge
    replace ht := tape_rel ht n6.r (fun _ _ h => h)
    replace HX := HX.nw n6.r
    replace x4 := x4.nw n6.r
    replace E := E.then n6.r (fun _ _ h => h.elim)
    refine Sx.syu (u_stR ty31 rfl rfl rfl x6 rfl rfl) rfl (wnt0 rfl) ?_
    rintro w7 ⟨r7, z7, x7n⟩
    replace ht := tape_rel ht r7 (fun b hb (e : b = b6) => by omega)
    replace HX := HX.ch r7 (by omega)
    replace x4 := x4.ch r7 (by omega)
    replace E := E.then r7 (fun x hx (e : x = b6) => show w.heap.size ≤ x by omega)
    replace x6 := x7n; clear x7n
    refine wnil ?_
    refine Sx.nT ?_
    refine Sx.seq ?_
    refine Sx.seq ?_
    refine Sx.reg ?_
    refine Sx.sv (r_mv rfl) rfl (wnt0 rfl) ?_
    have tq8_ht := tape_lt ht
    refine Sx.sc (r_call en9 rfl) rfl (wnt0 rfl) (next_any b2 3 _ ht (by omega) (by omega)) ?_
    rintro e w8 ⟨z8, p8, q8, rfl, hg8, ht8⟩
    refine ⟨_, rfl, ?_⟩
    have r8 := Rel.ofT hg8
    replace HX := HX.ch r8 (by omega)
    replace x4 := x4.ch r8 (by omega)
    replace x6 := x6.ch r8 (by omega)
    replace E := E.then r8 (fun x hx (e : x = b2) => show w.heap.size ≤ x by omega)
    replace ht := ht8
    refine wnil ?_
    refine Sx.nT ?_
    have t9_HX := HX.le
    have t9_x4 := x4.lt
    have t9_x6 := x6.lt
    have E9 : Rel (fun x => x = b2 ∨ x = b6 ∨ w8.heap.size ≤ x) w8 w8 := Rel.refl _ _
    refine Sx.cutR (Rt × Vr) (fun ⟨m, vm⟩ => [(3, .pointer (some ⟨b2, 0, none⟩)), (4, .pointer (some ⟨b4, 0, none⟩)), (5, .pointer (some ⟨b6, 0, none⟩))]) (fun ⟨m, vm⟩ wr => Rel (fun x => x = b2 ∨ x = b6 ∨ w8.heap.size ≤ x) w8 wr ∧ TapeOk wr b2 ∧ Bx wr b6 [.int .i64 m.c, .int .i64 m.k, .slice vm.A1 m.g.length vm.c1, .slice vm.A2 m.s.length vm.c2, .slice vm.A3 m.m.length vm.c3] 31 ∧ RL wr w2.heap.size m vm ∧ Ext x m ∧ Rok m) ?_ ?_
    · refine Sx.blk ?_
      refine Sx.seq ?_
      refine Sx.reg ?_
      refine Sx.sv (r_eq rfl rfl) rfl (wnt0 rfl) ?_
      refine Sx.sv (r_as rfl) rfl (wnt0 rfl) ?_
      refine wnil ?_
      refine Sx.nT ?_
      by_cases hz0 : z8 = 0
      · refine Sx.ct rfl (decide_eq_true hz0) ?_
        refine Sx.drg 17 (fun w10 wv => Rel (fun x => x = b2 ∨ w10.heap.size ≤ x) w10 wv ∧ TapeOk wv b2) mx (fun w10 hd => ?_)
        replace ht := tape_rel ht hd (fun _ _ h => h)
        replace HX := HX.nw hd
        replace x4 := x4.nw hd
        replace x6 := x6.nw hd
        replace E := E.then hd (fun _ _ h => h.elim)
        replace E9 := E9.then hd (fun _ _ h => h.elim)
        have sd10_E := E.size
        have sd10_E9 := E9.size
        have q_HX := HX.le
        have q_x4 := x4.lt
        have q_x6 := x6.lt
        have d_HX := HX
        have d_x4 := x4
        have d_x6 := x6
        have hS : Rel (fun x => x = b2 ∨ w10.heap.size ≤ x) w10 w10 ∧ TapeOk w10 b2 := ⟨Rel.refl _ _, ht⟩
        have lTd : b2 < w10.heap.size := tape_lt ht
        have lMd : b6 < w10.heap.size := x6.lt
        refine Sx.dt (i := 0) rfl (by kernel_rfl) (by kernel_rfl) (by kernel_rfl) (by kernel_rfl) (fun _ _ _ _ h => h) rfl (wnt0 rfl) (fun wv h2 => r_fa fo31_2 rfl) hS ?_
        refine Sx.dt (i := 3) rfl (by kernel_rfl) (by kernel_rfl) (by kernel_rfl) (by kernel_rfl) (fun _ _ _ _ h => h) rfl (wnt0 rfl) (fun wv h2 => r_mv rfl) hS ?_
        refine Sx.dt (i := 4) rfl (by kernel_rfl) (by kernel_rfl) (by kernel_rfl) (by kernel_rfl) (fun _ _ _ _ h => h) rfl (wnt0 rfl) (fun wv h2 => r_fa fo31_0 rfl) hS ?_
        refine Sx.dt (i := 7) rfl (by kernel_rfl) (by kernel_rfl) (by kernel_rfl) (by kernel_rfl) (fun _ _ _ _ h => h) rfl (wnt0 rfl) (fun wv h2 => r_mv rfl) hS ?_
        refine Sx.dt (i := 8) rfl (by kernel_rfl) (by kernel_rfl) (by kernel_rfl) (by kernel_rfl) (fun _ _ _ _ h => h) rfl (wnt0 rfl) (fun wv h2 => r_fa fo31_1 rfl) hS ?_
        refine Sx.dt (i := 11) rfl (by kernel_rfl) (by kernel_rfl) (by kernel_rfl) (by kernel_rfl) (fun _ _ _ _ h => h) rfl (wnt0 rfl) (fun wv h2 => r_mv rfl) hS ?_
        refine Sx.dt (i := 1) rfl (by kernel_rfl) (by kernel_rfl) (by kernel_rfl) (by kernel_rfl) (fun _ _ _ _ h => h) rfl (wnt0 rfl) (fun wv h2 => r_ld ty27 rfl ((d_x4.rel h2.1 (show ¬ (b4 = b2 ∨ w10.heap.size ≤ b4) from not_or.2 ⟨by omega, by omega⟩)).seg) rfl) hS ?_
        refine Sx.dt (i := 5) rfl (by kernel_rfl) (by kernel_rfl) (by kernel_rfl) (by kernel_rfl) (fun _ _ _ _ h => h) rfl (wnt0 rfl) (fun wv h2 => r_ld ty3 rfl ((d_x4.rel h2.1 (show ¬ (b4 = b2 ∨ w10.heap.size ≤ b4) from not_or.2 ⟨by omega, by omega⟩)).seg) rfl) hS ?_
        refine Sx.dt (i := 9) rfl (by kernel_rfl) (by kernel_rfl) (by kernel_rfl) (by kernel_rfl) (fun _ _ _ _ h => h) rfl (wnt0 rfl) (fun wv h2 => r_ld ty3 rfl ((d_x4.rel h2.1 (show ¬ (b4 = b2 ∨ w10.heap.size ≤ b4) from not_or.2 ⟨by omega, by omega⟩)).seg) rfl) hS ?_
        refine Sx.da1 (i := 2) (by kernel_rfl) ?_
        refine Sx.wy rfl (wnt0 rfl) (y_app2 (base := w10.heap.size) Try.underlying27 zi43 rfl (by decide) (by decide) rfl rfl (Sx.own_nil _ _ _ _) (HX.ok.r1) (v3_one _) (by omega) (by have := hS.1.size; omega)) rfl ?_
        rintro _ w11 ⟨A11, c11, rfl, o11, r11, a11⟩
        replace r11 : Rel NoC _ _ := r11.mono (fun x hx h => by cases h)
        replace ht := tape_rel ht r11 (fun _ _ h => h)
        replace HX := HX.nw r11
        replace x4 := x4.nw r11
        replace x6 := x6.nw r11
        replace E := E.then r11 (fun _ _ h => h.elim)
        replace E9 := E9.then r11 (fun _ _ h => h.elim)
        replace hS : Rel (fun x => x = b2 ∨ w10.heap.size ≤ x) w10 w11 ∧ TapeOk w11 b2 := ⟨hS.1.then r11 (fun _ _ h => h.elim), ht⟩
        refine ⟨.inr hS, ?_⟩
        have own := o11
        clear o11
        have tq12_ht := tape_lt ht
        refine Sx.da1 (i := 6) (by kernel_rfl) ?_
        refine Sx.wc rfl (wnt0 rfl) rfl (r_call en9 rfl) (next_any b2 x.c _ ht (by omega) (by omega)) ?_
        rintro e w12 ⟨z12, p12, q12, rfl, hg12, ht12⟩
        have r12 := Rel.ofT hg12
        replace HX := HX.ch r12 (by omega)
        replace x4 := x4.ch r12 (by omega)
        replace x6 := x6.ch r12 (by omega)
        replace own := own_rel own r12 (fun q hq (e : q = b2) => by subst e; first | exact own_not own (by assumption) (by decide) hq.symm | exact own_far own (by omega) hq.symm)
        replace E := E.then r12 (fun x hx (e : x = b2) => show w.heap.size ≤ x by omega)
        replace E9 := E9.then r12 (fun x hx (e : x = b2) => show x = b2 ∨ x = b6 ∨ w8.heap.size ≤ x by omega)
        replace ht := ht12
        replace hS : Rel (fun x => x = b2 ∨ w10.heap.size ≤ x) w10 w12 ∧ TapeOk w12 b2 := ⟨hS.1.then r12 (fun x hx (e : x = b2) => show x = b2 ∨ w10.heap.size ≤ x by omega), ht⟩
        refine ⟨_, rfl, .inr hS, ?_⟩
        have tq13_ht := tape_lt ht
        refine Sx.da1 (i := 10) (by kernel_rfl) ?_
        refine Sx.wc rfl (wnt0 rfl) rfl (r_call en9 rfl) (next_any b2 x.k _ ht (by omega) (by omega)) ?_
        rintro e w13 ⟨z13, p13, q13, rfl, hg13, ht13⟩
        have r13 := Rel.ofT hg13
        replace HX := HX.ch r13 (by omega)
        replace x4 := x4.ch r13 (by omega)
        replace x6 := x6.ch r13 (by omega)
        replace own := own_rel own r13 (fun q hq (e : q = b2) => by subst e; first | exact own_not own (by assumption) (by decide) hq.symm | exact own_far own (by omega) hq.symm)
        replace E := E.then r13 (fun x hx (e : x = b2) => show w.heap.size ≤ x by omega)
        replace E9 := E9.then r13 (fun x hx (e : x = b2) => show x = b2 ∨ x = b6 ∨ w8.heap.size ≤ x by omega)
        replace ht := ht13
        replace hS : Rel (fun x => x = b2 ∨ w10.heap.size ≤ x) w10 w13 ∧ TapeOk w13 b2 := ⟨hS.1.then r13 (fun x hx (e : x = b2) => show x = b2 ∨ w10.heap.size ≤ x by omega), ht⟩
        refine ⟨_, rfl, .inr hS, ?_⟩
        have tq14_ht := tape_lt ht
        refine Sx.da1 (i := 12) (by kernel_rfl) ?_
        refine Sx.wc rfl (wnt0 rfl) rfl (r_call en17 rfl) (between_any b2 1 3 _ ht (by omega) (by omega) (by omega) (by omega)) ?_
        rintro e w14 ⟨z14, p14, q14, rfl, hg14, ht14⟩
        have r14 := Rel.ofT hg14
        replace HX := HX.ch r14 (by omega)
        replace x4 := x4.ch r14 (by omega)
        replace x6 := x6.ch r14 (by omega)
        replace own := own_rel own r14 (fun q hq (e : q = b2) => by subst e; first | exact own_not own (by assumption) (by decide) hq.symm | exact own_far own (by omega) hq.symm)
        replace E := E.then r14 (fun x hx (e : x = b2) => show w.heap.size ≤ x by omega)
        replace E9 := E9.then r14 (fun x hx (e : x = b2) => show x = b2 ∨ x = b6 ∨ w8.heap.size ≤ x by omega)
        replace ht := ht14
        replace hS : Rel (fun x => x = b2 ∨ w10.heap.size ≤ x) w10 w14 ∧ TapeOk w14 b2 := ⟨hS.1.then r14 (fun x hx (e : x = b2) => show x = b2 ∨ w10.heap.size ≤ x by omega), ht⟩
        refine ⟨_, rfl, .inr hS, ?_⟩
        refine Sx.dt (i := 13) rfl (by kernel_rfl) (by kernel_rfl) (by kernel_rfl) (by kernel_rfl) (fun _ _ _ _ h => h) rfl (wnt0 rfl) (fun wv h2 => r_bld rfl (bd43_0_1_2 _ _ _)) hS ?_
        refine Sx.da1 (i := 14) (by kernel_rfl) ?_
        refine Sx.wy rfl (wnt0 rfl) (y_bs rfl (bs27_1 _ _ _)) rfl ?_
        rintro _ w15 ⟨b15, rfl, n15, x15⟩
        have l15_ht : b2 < b15 := Nat.lt_of_lt_of_le (tape_lt ht) n15.ge
        have l15_HX : w3.heap.size ≤ b15 := Nat.le_trans HX.le n15.ge
        have l15_x4 : b4 < b15 := Nat.lt_of_lt_of_le x4.lt n15.ge
        have l15_x6 : b6 < b15 := Nat.lt_of_lt_of_le x6.lt n15.ge
        have f15_own := fresh_own own n15.ge
        have g15 : w.heap.size ≤ b15 := Nat.le_trans E.size n15.ge
        have g15_E9 : w8.heap.size ≤ b15 := Nat.le_trans E9.size n15.ge
        replace ht := tape_rel ht n15.r (fun _ _ h => h)
        replace HX := HX.nw n15.r
        replace x4 := x4.nw n15.r
        replace x6 := x6.nw n15.r
        replace own := own_nw own n15.r
        replace E := E.then n15.r (fun _ _ h => h.elim)
        replace E9 := E9.then n15.r (fun _ _ h => h.elim)
        have q_x15 := x15.lt
        replace hS : Rel (fun x => x = b2 ∨ w10.heap.size ≤ x) w10 w15 ∧ TapeOk w15 b2 := ⟨hS.1.then n15.r (fun _ _ h => h.elim), ht⟩
        refine ⟨.inr hS, ?_⟩
        refine Sx.da1 (i := 15) (by kernel_rfl) ?_
        refine Sx.wy rfl (wnt0 rfl) (y_app Try.underlying27 zi43 rfl (by decide) (by decide) rfl rfl own x15 rfl rfl (by omega) (by have := hS.1.size; have := E.size; omega)) rfl ?_
        rintro _ w16 ⟨A16, c16, rfl, o16, r16, a16⟩
        replace ht := tape_rel ht r16 (fun b hb e => by have := own_ge own e; omega)
        replace HX := HX.rel r16 (fun b h1 h2 e => by have := own_ge own e; omega)
        replace x4 := x4.rel r16 (by first | assumption | exact own_not own x4 (by decide) | exact own_far own (by omega))
        replace x6 := x6.rel r16 (by first | assumption | exact own_not own x6 (by decide) | exact own_far own (by omega))
        replace x15 := x15.rel r16 (by first | assumption | exact own_not own x15 (by decide) | exact own_far own (by omega))
        replace E := E.then r16 (fun x hx e => show w.heap.size ≤ x by have := own_ge own e; omega)
        replace E9 := E9.then r16 (fun x hx e => show x = b2 ∨ x = b6 ∨ w8.heap.size ≤ x by have := own_ge own e; omega)
        replace hS : Rel (fun x => x = b2 ∨ w10.heap.size ≤ x) w10 w16 ∧ TapeOk w16 b2 := ⟨hS.1.then r16 (fun x hx e => show x = b2 ∨ w10.heap.size ≤ x by have := own_ge own e; omega), ht⟩
        replace own := o16; clear o16
        refine ⟨.inr hS, ?_⟩
        refine Sx.dt (i := 16) rfl (by kernel_rfl) (by kernel_rfl) (by kernel_rfl) (by kernel_rfl) (fun _ _ _ _ h => h) rfl (wnt0 rfl) (fun wv h2 => r_fa fo31_2 rfl) hS ?_
        refine Sx.da1 (i := 17) (by kernel_rfl) ?_
        refine Sx.wyu rfl (wnt0 rfl) (u_st sz27 rfl rfl rfl rfl x6 rfl) rfl ?_
        rintro w17 ⟨r17, z17, x17n⟩
        replace ht := tape_rel ht r17 (fun b hb (e : b = b6) => by omega)
        replace HX := HX.ch r17 (by omega)
        replace x4 := x4.ch r17 (by omega)
        replace own := own_rel own r17 (fun q hq (e : q = b6) => by subst e; first | exact own_not own (by assumption) (by decide) hq.symm | exact own_far own (by omega) hq.symm)
        replace E := E.then r17 (fun x hx (e : x = b6) => show w.heap.size ≤ x by omega)
        replace E9 := E9.then r17 (fun x hx (e : x = b6) => show x = b2 ∨ x = b6 ∨ w8.heap.size ≤ x by omega)
        replace x6 := x17n; clear x17n
        refine ⟨.inl rfl, ?_⟩
        refine Sx.dz (by kernel_rfl) ?_
        clear hS d_HX d_x4 d_x6
        refine Sx.nB ?_
        refine Sx.nT ?_
        have hle : (x.g ++ [(⟨z12, z13, z14⟩ : T3)]).length = 0 + x.g.length + 1 := by simp
        have hrow : Row w17 w2.heap.size 3 A16 (x.g ++ [(⟨z12, z13, z14⟩ : T3)]).length (v3 (x.g ++ [(⟨z12, z13, z14⟩ : T3)])) := by
          rw [hle, v3_snoc]
          have h9 := row_of_own own
          rw [List.nil_append] at h9
          exact h9.base (by have := HX.le; omega)
        have hxm : Bx w17 b6 [.int .i64 (⟨x.c, x.k, x.g ++ [(⟨z12, z13, z14⟩ : T3)], x.s, x.m⟩ : Rt).c, .int .i64 (⟨x.c, x.k, x.g ++ [(⟨z12, z13, z14⟩ : T3)], x.s, x.m⟩ : Rt).k, .slice (⟨A16, c16, v.A2, v.c2, v.A3, v.c3⟩ : Vr).A1 (⟨x.c, x.k, x.g ++ [(⟨z12, z13, z14⟩ : T3)], x.s, x.m⟩ : Rt).g.length (⟨A16, c16, v.A2, v.c2, v.A3, v.c3⟩ : Vr).c1, .slice (⟨A16, c16, v.A2, v.c2, v.A3, v.c3⟩ : Vr).A2 (⟨x.c, x.k, x.g ++ [(⟨z12, z13, z14⟩ : T3)], x.s, x.m⟩ : Rt).s.length (⟨A16, c16, v.A2, v.c2, v.A3, v.c3⟩ : Vr).c2, .slice (⟨A16, c16, v.A2, v.c2, v.A3, v.c3⟩ : Vr).A3 (⟨x.c, x.k, x.g ++ [(⟨z12, z13, z14⟩ : T3)], x.s, x.m⟩ : Rt).m.length (⟨A16, c16, v.A2, v.c2, v.A3, v.c3⟩ : Vr).c3] 31 := by
          show Bx _ _ [.int .i64 x.c, .int .i64 x.k, .slice A16 (x.g ++ [(⟨z12, z13, z14⟩ : T3)]).length c16, .slice v.A2 x.s.length v.c2, .slice v.A3 x.m.length v.c3] 31
          rw [hle]
          exact x6
        exact Sx.midE (⟨(⟨x.c, x.k, x.g ++ [(⟨z12, z13, z14⟩ : T3)], x.s, x.m⟩ : Rt), (⟨A16, c16, v.A2, v.c2, v.A3, v.c3⟩ : Vr)⟩) ⟨rfl, rfl, rfl, trivial⟩ ⟨E9, ht, hxm, ⟨hrow, HX.ok.r2, HX.ok.r3⟩, ⟨rfl, rfl, ⟨[(⟨z12, z13, z14⟩ : T3)], rfl⟩, ⟨[], (List.append_nil _).symm⟩, ⟨[], (List.append_nil _).symm⟩⟩, ok_of ⟨by show 0 ≤ x.c; omega, by show x.c ≤ 24; omega⟩ ⟨by show 0 ≤ x.k; omega, by show x.k ≤ 24; omega⟩ (by show List.length (x.g ++ [(⟨z12, z13, z14⟩ : T3)]) ≤ 100; rw [hle]; omega) (by show List.length x.s ≤ 100; omega) (by show List.length x.m ≤ 100; omega) (fun y hy => by rcases List.mem_append.1 hy with hy | hy; exact hmk.g y hy; rw [List.mem_singleton] at hy; subst hy; exact ⟨(show (0 : Int) ≤ z12 by omega), (show z12 < x.c by omega), (show (0 : Int) ≤ z13 by omega), (show z13 < x.k by omega), (show (1 : Int) ≤ z14 by omega), (show z14 ≤ 3 by omega)⟩) hmk.s hmk.m⟩
      · refine Sx.cf rfl (decide_eq_false hz0) ?_
        refine Sx.seq ?_
        refine Sx.reg ?_
        refine Sx.sv (r_eq rfl rfl) rfl (wnt0 rfl) ?_
        refine Sx.sv (r_as rfl) rfl (wnt0 rfl) ?_
        refine wnil ?_
        refine Sx.nT ?_
        by_cases hz1 : z8 = 1
        · refine Sx.ct rfl (decide_eq_true hz1) ?_
          refine Sx.drg 15 (fun w18 wv => Rel (fun x => x = b2 ∨ w18.heap.size ≤ x) w18 wv ∧ TapeOk wv b2) mx (fun w18 hd => ?_)
          replace ht := tape_rel ht hd (fun _ _ h => h)
          replace HX := HX.nw hd
          replace x4 := x4.nw hd
          replace x6 := x6.nw hd
          replace E := E.then hd (fun _ _ h => h.elim)
          replace E9 := E9.then hd (fun _ _ h => h.elim)
          have sd18_E := E.size
          have sd18_E9 := E9.size
          have q_HX := HX.le
          have q_x4 := x4.lt
          have q_x6 := x6.lt
          have d_HX := HX
          have d_x4 := x4
          have d_x6 := x6
          have hS : Rel (fun x => x = b2 ∨ w18.heap.size ≤ x) w18 w18 ∧ TapeOk w18 b2 := ⟨Rel.refl _ _, ht⟩
          have lTd : b2 < w18.heap.size := tape_lt ht
          have lMd : b6 < w18.heap.size := x6.lt
          refine Sx.dt (i := 0) rfl (by kernel_rfl) (by kernel_rfl) (by kernel_rfl) (by kernel_rfl) (fun _ _ _ _ h => h) rfl (wnt0 rfl) (fun wv h2 => r_fa fo31_3 rfl) hS ?_
          refine Sx.dt (i := 3) rfl (by kernel_rfl) (by kernel_rfl) (by kernel_rfl) (by kernel_rfl) (fun _ _ _ _ h => h) rfl (wnt0 rfl) (fun wv h2 => r_mv rfl) hS ?_
          refine Sx.dt (i := 4) rfl (by kernel_rfl) (by kernel_rfl) (by kernel_rfl) (by kernel_rfl) (fun _ _ _ _ h => h) rfl (wnt0 rfl) (fun wv h2 => r_fa fo31_1 rfl) hS ?_
          refine Sx.dt (i := 7) rfl (by kernel_rfl) (by kernel_rfl) (by kernel_rfl) (by kernel_rfl) (fun _ _ _ _ h => h) rfl (wnt0 rfl) (fun wv h2 => r_mv rfl) hS ?_
          refine Sx.dt (i := 8) rfl (by kernel_rfl) (by kernel_rfl) (by kernel_rfl) (by kernel_rfl) (fun _ _ _ _ h => h) rfl (wnt0 rfl) (fun wv h2 => r_fa fo31_0 rfl) hS ?_
          refine Sx.dt (i := 1) rfl (by kernel_rfl) (by kernel_rfl) (by kernel_rfl) (by kernel_rfl) (fun _ _ _ _ h => h) rfl (wnt0 rfl) (fun wv h2 => r_ld ty28 rfl ((d_x4.rel h2.1 (show ¬ (b4 = b2 ∨ w18.heap.size ≤ b4) from not_or.2 ⟨by omega, by omega⟩)).seg) rfl) hS ?_
          refine Sx.dt (i := 5) rfl (by kernel_rfl) (by kernel_rfl) (by kernel_rfl) (by kernel_rfl) (fun _ _ _ _ h => h) rfl (wnt0 rfl) (fun wv h2 => r_ld ty3 rfl ((d_x4.rel h2.1 (show ¬ (b4 = b2 ∨ w18.heap.size ≤ b4) from not_or.2 ⟨by omega, by omega⟩)).seg) rfl) hS ?_
          refine Sx.dt (i := 9) rfl (by kernel_rfl) (by kernel_rfl) (by kernel_rfl) (by kernel_rfl) (fun _ _ _ _ h => h) rfl (wnt0 rfl) (fun wv h2 => r_ld ty3 rfl ((d_x4.rel h2.1 (show ¬ (b4 = b2 ∨ w18.heap.size ≤ b4) from not_or.2 ⟨by omega, by omega⟩)).seg) rfl) hS ?_
          refine Sx.da1 (i := 2) (by kernel_rfl) ?_
          refine Sx.wy rfl (wnt0 rfl) (y_app2 (base := w18.heap.size) Try.underlying28 zi45 rfl (by decide) (by decide) rfl rfl (Sx.own_nil _ _ _ _) (HX.ok.r2) (v2_one _) (by omega) (by have := hS.1.size; omega)) rfl ?_
          rintro _ w19 ⟨A19, c19, rfl, o19, r19, a19⟩
          replace r19 : Rel NoC _ _ := r19.mono (fun x hx h => by cases h)
          replace ht := tape_rel ht r19 (fun _ _ h => h)
          replace HX := HX.nw r19
          replace x4 := x4.nw r19
          replace x6 := x6.nw r19
          replace E := E.then r19 (fun _ _ h => h.elim)
          replace E9 := E9.then r19 (fun _ _ h => h.elim)
          replace hS : Rel (fun x => x = b2 ∨ w18.heap.size ≤ x) w18 w19 ∧ TapeOk w19 b2 := ⟨hS.1.then r19 (fun _ _ h => h.elim), ht⟩
          refine ⟨.inr hS, ?_⟩
          have own := o19
          clear o19
          have tq20_ht := tape_lt ht
          refine Sx.da1 (i := 6) (by kernel_rfl) ?_
          refine Sx.wc rfl (wnt0 rfl) rfl (r_call en9 rfl) (next_any b2 x.k _ ht (by omega) (by omega)) ?_
          rintro e w20 ⟨z20, p20, q20, rfl, hg20, ht20⟩
          have r20 := Rel.ofT hg20
          replace HX := HX.ch r20 (by omega)
          replace x4 := x4.ch r20 (by omega)
          replace x6 := x6.ch r20 (by omega)
          replace own := own_rel own r20 (fun q hq (e : q = b2) => by subst e; first | exact own_not own (by assumption) (by decide) hq.symm | exact own_far own (by omega) hq.symm)
          replace E := E.then r20 (fun x hx (e : x = b2) => show w.heap.size ≤ x by omega)
          replace E9 := E9.then r20 (fun x hx (e : x = b2) => show x = b2 ∨ x = b6 ∨ w8.heap.size ≤ x by omega)
          replace ht := ht20
          replace hS : Rel (fun x => x = b2 ∨ w18.heap.size ≤ x) w18 w20 ∧ TapeOk w20 b2 := ⟨hS.1.then r20 (fun x hx (e : x = b2) => show x = b2 ∨ w18.heap.size ≤ x by omega), ht⟩
          refine ⟨_, rfl, .inr hS, ?_⟩
          have tq21_ht := tape_lt ht
          refine Sx.da1 (i := 10) (by kernel_rfl) ?_
          refine Sx.wc rfl (wnt0 rfl) rfl (r_call en9 rfl) (next_any b2 x.c _ ht (by omega) (by omega)) ?_
          rintro e w21 ⟨z21, p21, q21, rfl, hg21, ht21⟩
          have r21 := Rel.ofT hg21
          replace HX := HX.ch r21 (by omega)
          replace x4 := x4.ch r21 (by omega)
          replace x6 := x6.ch r21 (by omega)
          replace own := own_rel own r21 (fun q hq (e : q = b2) => by subst e; first | exact own_not own (by assumption) (by decide) hq.symm | exact own_far own (by omega) hq.symm)
          replace E := E.then r21 (fun x hx (e : x = b2) => show w.heap.size ≤ x by omega)
          replace E9 := E9.then r21 (fun x hx (e : x = b2) => show x = b2 ∨ x = b6 ∨ w8.heap.size ≤ x by omega)
          replace ht := ht21
          replace hS : Rel (fun x => x = b2 ∨ w18.heap.size ≤ x) w18 w21 ∧ TapeOk w21 b2 := ⟨hS.1.then r21 (fun x hx (e : x = b2) => show x = b2 ∨ w18.heap.size ≤ x by omega), ht⟩
          refine ⟨_, rfl, .inr hS, ?_⟩
          refine Sx.dt (i := 11) rfl (by kernel_rfl) (by kernel_rfl) (by kernel_rfl) (by kernel_rfl) (fun _ _ _ _ h => h) rfl (wnt0 rfl) (fun wv h2 => r_bld rfl (bd45_0_1 _ _)) hS ?_
          refine Sx.da1 (i := 12) (by kernel_rfl) ?_
          refine Sx.wy rfl (wnt0 rfl) (y_bs rfl (bs28_1 _ _)) rfl ?_
          rintro _ w22 ⟨b22, rfl, n22, x22⟩
          have l22_ht : b2 < b22 := Nat.lt_of_lt_of_le (tape_lt ht) n22.ge
          have l22_HX : w3.heap.size ≤ b22 := Nat.le_trans HX.le n22.ge
          have l22_x4 : b4 < b22 := Nat.lt_of_lt_of_le x4.lt n22.ge
          have l22_x6 : b6 < b22 := Nat.lt_of_lt_of_le x6.lt n22.ge
          have f22_own := fresh_own own n22.ge
          have g22 : w.heap.size ≤ b22 := Nat.le_trans E.size n22.ge
          have g22_E9 : w8.heap.size ≤ b22 := Nat.le_trans E9.size n22.ge
          replace ht := tape_rel ht n22.r (fun _ _ h => h)
          replace HX := HX.nw n22.r
          replace x4 := x4.nw n22.r
          replace x6 := x6.nw n22.r
          replace own := own_nw own n22.r
          replace E := E.then n22.r (fun _ _ h => h.elim)
          replace E9 := E9.then n22.r (fun _ _ h => h.elim)
          have q_x22 := x22.lt
          replace hS : Rel (fun x => x = b2 ∨ w18.heap.size ≤ x) w18 w22 ∧ TapeOk w22 b2 := ⟨hS.1.then n22.r (fun _ _ h => h.elim), ht⟩
          refine ⟨.inr hS, ?_⟩
          refine Sx.da1 (i := 13) (by kernel_rfl) ?_
          refine Sx.wy rfl (wnt0 rfl) (y_app Try.underlying28 zi45 rfl (by decide) (by decide) rfl rfl own x22 rfl rfl (by omega) (by have := hS.1.size; have := E.size; omega)) rfl ?_
          rintro _ w23 ⟨A23, c23, rfl, o23, r23, a23⟩
          replace ht := tape_rel ht r23 (fun b hb e => by have := own_ge own e; omega)
          replace HX := HX.rel r23 (fun b h1 h2 e => by have := own_ge own e; omega)
          replace x4 := x4.rel r23 (by first | assumption | exact own_not own x4 (by decide) | exact own_far own (by omega))
          replace x6 := x6.rel r23 (by first | assumption | exact own_not own x6 (by decide) | exact own_far own (by omega))
          replace x22 := x22.rel r23 (by first | assumption | exact own_not own x22 (by decide) | exact own_far own (by omega))
          replace E := E.then r23 (fun x hx e => show w.heap.size ≤ x by have := own_ge own e; omega)
          replace E9 := E9.then r23 (fun x hx e => show x = b2 ∨ x = b6 ∨ w8.heap.size ≤ x by have := own_ge own e; omega)
          replace hS : Rel (fun x => x = b2 ∨ w18.heap.size ≤ x) w18 w23 ∧ TapeOk w23 b2 := ⟨hS.1.then r23 (fun x hx e => show x = b2 ∨ w18.heap.size ≤ x by have := own_ge own e; omega), ht⟩
          replace own := o23; clear o23
          refine ⟨.inr hS, ?_⟩
          refine Sx.dt (i := 14) rfl (by kernel_rfl) (by kernel_rfl) (by kernel_rfl) (by kernel_rfl) (fun _ _ _ _ h => h) rfl (wnt0 rfl) (fun wv h2 => r_fa fo31_3 rfl) hS ?_
          refine Sx.da1 (i := 15) (by kernel_rfl) ?_
          refine Sx.wyu rfl (wnt0 rfl) (u_st sz28 rfl rfl rfl rfl x6 rfl) rfl ?_
          rintro w24 ⟨r24, z24, x24n⟩
          replace ht := tape_rel ht r24 (fun b hb (e : b = b6) => by omega)
          replace HX := HX.ch r24 (by omega)
          replace x4 := x4.ch r24 (by omega)
          replace own := own_rel own r24 (fun q hq (e : q = b6) => by subst e; first | exact own_not own (by assumption) (by decide) hq.symm | exact own_far own (by omega) hq.symm)
          replace E := E.then r24 (fun x hx (e : x = b6) => show w.heap.size ≤ x by omega)
          replace E9 := E9.then r24 (fun x hx (e : x = b6) => show x = b2 ∨ x = b6 ∨ w8.heap.size ≤ x by omega)
          replace x6 := x24n; clear x24n
          refine ⟨.inl rfl, ?_⟩
          refine Sx.dz (by kernel_rfl) ?_
          clear hS d_HX d_x4 d_x6
          refine Sx.nB ?_
          refine Sx.nT ?_
          have hle : (x.s ++ [(⟨z20, z21⟩ : T2)]).length = 0 + x.s.length + 1 := by simp
          have hrow : Row w24 w2.heap.size 2 A23 (x.s ++ [(⟨z20, z21⟩ : T2)]).length (v2 (x.s ++ [(⟨z20, z21⟩ : T2)])) := by
            rw [hle, v2_snoc]
            have h9 := row_of_own own
            rw [List.nil_append] at h9
            exact h9.base (by have := HX.le; omega)
          have hxm : Bx w24 b6 [.int .i64 (⟨x.c, x.k, x.g, x.s ++ [(⟨z20, z21⟩ : T2)], x.m⟩ : Rt).c, .int .i64 (⟨x.c, x.k, x.g, x.s ++ [(⟨z20, z21⟩ : T2)], x.m⟩ : Rt).k, .slice (⟨v.A1, v.c1, A23, c23, v.A3, v.c3⟩ : Vr).A1 (⟨x.c, x.k, x.g, x.s ++ [(⟨z20, z21⟩ : T2)], x.m⟩ : Rt).g.length (⟨v.A1, v.c1, A23, c23, v.A3, v.c3⟩ : Vr).c1, .slice (⟨v.A1, v.c1, A23, c23, v.A3, v.c3⟩ : Vr).A2 (⟨x.c, x.k, x.g, x.s ++ [(⟨z20, z21⟩ : T2)], x.m⟩ : Rt).s.length (⟨v.A1, v.c1, A23, c23, v.A3, v.c3⟩ : Vr).c2, .slice (⟨v.A1, v.c1, A23, c23, v.A3, v.c3⟩ : Vr).A3 (⟨x.c, x.k, x.g, x.s ++ [(⟨z20, z21⟩ : T2)], x.m⟩ : Rt).m.length (⟨v.A1, v.c1, A23, c23, v.A3, v.c3⟩ : Vr).c3] 31 := by
            show Bx _ _ [.int .i64 x.c, .int .i64 x.k, .slice v.A1 x.g.length v.c1, .slice A23 (x.s ++ [(⟨z20, z21⟩ : T2)]).length c23, .slice v.A3 x.m.length v.c3] 31
            rw [hle]
            exact x6
          exact Sx.midE (⟨(⟨x.c, x.k, x.g, x.s ++ [(⟨z20, z21⟩ : T2)], x.m⟩ : Rt), (⟨v.A1, v.c1, A23, c23, v.A3, v.c3⟩ : Vr)⟩) ⟨rfl, rfl, rfl, trivial⟩ ⟨E9, ht, hxm, ⟨HX.ok.r1, hrow, HX.ok.r3⟩, ⟨rfl, rfl, ⟨[], (List.append_nil _).symm⟩, ⟨[(⟨z20, z21⟩ : T2)], rfl⟩, ⟨[], (List.append_nil _).symm⟩⟩, ok_of ⟨by show 0 ≤ x.c; omega, by show x.c ≤ 24; omega⟩ ⟨by show 0 ≤ x.k; omega, by show x.k ≤ 24; omega⟩ (by show List.length x.g ≤ 100; omega) (by show List.length (x.s ++ [(⟨z20, z21⟩ : T2)]) ≤ 100; rw [hle]; omega) (by show List.length x.m ≤ 100; omega) hmk.g (fun y hy => by rcases List.mem_append.1 hy with hy | hy; exact hmk.s y hy; rw [List.mem_singleton] at hy; subst hy; exact ⟨(show (0 : Int) ≤ z20 by omega), (show z20 < x.k by omega), (show (0 : Int) ≤ z21 by omega), (show z21 < x.c by omega)⟩) hmk.m⟩
        · refine Sx.cf rfl (decide_eq_false hz1) ?_
          refine Sx.drg 15 (fun w25 wv => Rel (fun x => x = b2 ∨ w25.heap.size ≤ x) w25 wv ∧ TapeOk wv b2) mx (fun w25 hd => ?_)
          replace ht := tape_rel ht hd (fun _ _ h => h)
          replace HX := HX.nw hd
          replace x4 := x4.nw hd
          replace x6 := x6.nw hd
          replace E := E.then hd (fun _ _ h => h.elim)
          replace E9 := E9.then hd (fun _ _ h => h.elim)
          have sd25_E := E.size
          have sd25_E9 := E9.size
          have q_HX := HX.le
          have q_x4 := x4.lt
          have q_x6 := x6.lt
          have d_HX := HX
          have d_x4 := x4
          have d_x6 := x6
          have hS : Rel (fun x => x = b2 ∨ w25.heap.size ≤ x) w25 w25 ∧ TapeOk w25 b2 := ⟨Rel.refl _ _, ht⟩
          have lTd : b2 < w25.heap.size := tape_lt ht
          have lMd : b6 < w25.heap.size := x6.lt
          refine Sx.dt (i := 0) rfl (by kernel_rfl) (by kernel_rfl) (by kernel_rfl) (by kernel_rfl) (fun _ _ _ _ h => h) rfl (wnt0 rfl) (fun wv h2 => r_fa fo31_4 rfl) hS ?_
          refine Sx.dt (i := 3) rfl (by kernel_rfl) (by kernel_rfl) (by kernel_rfl) (by kernel_rfl) (fun _ _ _ _ h => h) rfl (wnt0 rfl) (fun wv h2 => r_mv rfl) hS ?_
          refine Sx.dt (i := 4) rfl (by kernel_rfl) (by kernel_rfl) (by kernel_rfl) (by kernel_rfl) (fun _ _ _ _ h => h) rfl (wnt0 rfl) (fun wv h2 => r_fa fo31_0 rfl) hS ?_
          refine Sx.dt (i := 7) rfl (by kernel_rfl) (by kernel_rfl) (by kernel_rfl) (by kernel_rfl) (fun _ _ _ _ h => h) rfl (wnt0 rfl) (fun wv h2 => r_mv rfl) hS ?_
          refine Sx.dt (i := 8) rfl (by kernel_rfl) (by kernel_rfl) (by kernel_rfl) (by kernel_rfl) (fun _ _ _ _ h => h) rfl (wnt0 rfl) (fun wv h2 => r_fa fo31_0 rfl) hS ?_
          refine Sx.dt (i := 1) rfl (by kernel_rfl) (by kernel_rfl) (by kernel_rfl) (by kernel_rfl) (fun _ _ _ _ h => h) rfl (wnt0 rfl) (fun wv h2 => r_ld ty29 rfl ((d_x4.rel h2.1 (show ¬ (b4 = b2 ∨ w25.heap.size ≤ b4) from not_or.2 ⟨by omega, by omega⟩)).seg) rfl) hS ?_
          refine Sx.dt (i := 5) rfl (by kernel_rfl) (by kernel_rfl) (by kernel_rfl) (by kernel_rfl) (fun _ _ _ _ h => h) rfl (wnt0 rfl) (fun wv h2 => r_ld ty3 rfl ((d_x4.rel h2.1 (show ¬ (b4 = b2 ∨ w25.heap.size ≤ b4) from not_or.2 ⟨by omega, by omega⟩)).seg) rfl) hS ?_
          refine Sx.dt (i := 9) rfl (by kernel_rfl) (by kernel_rfl) (by kernel_rfl) (by kernel_rfl) (fun _ _ _ _ h => h) rfl (wnt0 rfl) (fun wv h2 => r_ld ty3 rfl ((d_x4.rel h2.1 (show ¬ (b4 = b2 ∨ w25.heap.size ≤ b4) from not_or.2 ⟨by omega, by omega⟩)).seg) rfl) hS ?_
          refine Sx.da1 (i := 2) (by kernel_rfl) ?_
          refine Sx.wy rfl (wnt0 rfl) (y_app2 (base := w25.heap.size) Try.underlying29 zi47 rfl (by decide) (by decide) rfl rfl (Sx.own_nil _ _ _ _) (HX.ok.r3) (v2_one _) (by omega) (by have := hS.1.size; omega)) rfl ?_
          rintro _ w26 ⟨A26, c26, rfl, o26, r26, a26⟩
          replace r26 : Rel NoC _ _ := r26.mono (fun x hx h => by cases h)
          replace ht := tape_rel ht r26 (fun _ _ h => h)
          replace HX := HX.nw r26
          replace x4 := x4.nw r26
          replace x6 := x6.nw r26
          replace E := E.then r26 (fun _ _ h => h.elim)
          replace E9 := E9.then r26 (fun _ _ h => h.elim)
          replace hS : Rel (fun x => x = b2 ∨ w25.heap.size ≤ x) w25 w26 ∧ TapeOk w26 b2 := ⟨hS.1.then r26 (fun _ _ h => h.elim), ht⟩
          refine ⟨.inr hS, ?_⟩
          have own := o26
          clear o26
          have tq27_ht := tape_lt ht
          refine Sx.da1 (i := 6) (by kernel_rfl) ?_
          refine Sx.wc rfl (wnt0 rfl) rfl (r_call en9 rfl) (next_any b2 x.c _ ht (by omega) (by omega)) ?_
          rintro e w27 ⟨z27, p27, q27, rfl, hg27, ht27⟩
          have r27 := Rel.ofT hg27
          replace HX := HX.ch r27 (by omega)
          replace x4 := x4.ch r27 (by omega)
          replace x6 := x6.ch r27 (by omega)
          replace own := own_rel own r27 (fun q hq (e : q = b2) => by subst e; first | exact own_not own (by assumption) (by decide) hq.symm | exact own_far own (by omega) hq.symm)
          replace E := E.then r27 (fun x hx (e : x = b2) => show w.heap.size ≤ x by omega)
          replace E9 := E9.then r27 (fun x hx (e : x = b2) => show x = b2 ∨ x = b6 ∨ w8.heap.size ≤ x by omega)
          replace ht := ht27
          replace hS : Rel (fun x => x = b2 ∨ w25.heap.size ≤ x) w25 w27 ∧ TapeOk w27 b2 := ⟨hS.1.then r27 (fun x hx (e : x = b2) => show x = b2 ∨ w25.heap.size ≤ x by omega), ht⟩
          refine ⟨_, rfl, .inr hS, ?_⟩
          have tq28_ht := tape_lt ht
          refine Sx.da1 (i := 10) (by kernel_rfl) ?_
          refine Sx.wc rfl (wnt0 rfl) rfl (r_call en9 rfl) (next_any b2 x.c _ ht (by omega) (by omega)) ?_
          rintro e w28 ⟨z28, p28, q28, rfl, hg28, ht28⟩
          have r28 := Rel.ofT hg28
          replace HX := HX.ch r28 (by omega)
          replace x4 := x4.ch r28 (by omega)
          replace x6 := x6.ch r28 (by omega)
          replace own := own_rel own r28 (fun q hq (e : q = b2) => by subst e; first | exact own_not own (by assumption) (by decide) hq.symm | exact own_far own (by omega) hq.symm)
          replace E := E.then r28 (fun x hx (e : x = b2) => show w.heap.size ≤ x by omega)
          replace E9 := E9.then r28 (fun x hx (e : x = b2) => show x = b2 ∨ x = b6 ∨ w8.heap.size ≤ x by omega)
          replace ht := ht28
          replace hS : Rel (fun x => x = b2 ∨ w25.heap.size ≤ x) w25 w28 ∧ TapeOk w28 b2 := ⟨hS.1.then r28 (fun x hx (e : x = b2) => show x = b2 ∨ w25.heap.size ≤ x by omega), ht⟩
          refine ⟨_, rfl, .inr hS, ?_⟩
          refine Sx.dt (i := 11) rfl (by kernel_rfl) (by kernel_rfl) (by kernel_rfl) (by kernel_rfl) (fun _ _ _ _ h => h) rfl (wnt0 rfl) (fun wv h2 => r_bld rfl (bd47_0_1 _ _)) hS ?_
          refine Sx.da1 (i := 12) (by kernel_rfl) ?_
          refine Sx.wy rfl (wnt0 rfl) (y_bs rfl (bs29_1 _ _)) rfl ?_
          rintro _ w29 ⟨b29, rfl, n29, x29⟩
          have l29_ht : b2 < b29 := Nat.lt_of_lt_of_le (tape_lt ht) n29.ge
          have l29_HX : w3.heap.size ≤ b29 := Nat.le_trans HX.le n29.ge
          have l29_x4 : b4 < b29 := Nat.lt_of_lt_of_le x4.lt n29.ge
          have l29_x6 : b6 < b29 := Nat.lt_of_lt_of_le x6.lt n29.ge
          have f29_own := fresh_own own n29.ge
          have g29 : w.heap.size ≤ b29 := Nat.le_trans E.size n29.ge
          have g29_E9 : w8.heap.size ≤ b29 := Nat.le_trans E9.size n29.ge
          replace ht := tape_rel ht n29.r (fun _ _ h => h)
          replace HX := HX.nw n29.r
          replace x4 := x4.nw n29.r
          replace x6 := x6.nw n29.r
          replace own := own_nw own n29.r
          replace E := E.then n29.r (fun _ _ h => h.elim)
          replace E9 := E9.then n29.r (fun _ _ h => h.elim)
          have q_x29 := x29.lt
          replace hS : Rel (fun x => x = b2 ∨ w25.heap.size ≤ x) w25 w29 ∧ TapeOk w29 b2 := ⟨hS.1.then n29.r (fun _ _ h => h.elim), ht⟩
          refine ⟨.inr hS, ?_⟩
          refine Sx.da1 (i := 13) (by kernel_rfl) ?_
          refine Sx.wy rfl (wnt0 rfl) (y_app Try.underlying29 zi47 rfl (by decide) (by decide) rfl rfl own x29 rfl rfl (by omega) (by have := hS.1.size; have := E.size; omega)) rfl ?_
          rintro _ w30 ⟨A30, c30, rfl, o30, r30, a30⟩
          replace ht := tape_rel ht r30 (fun b hb e => by have := own_ge own e; omega)
          replace HX := HX.rel r30 (fun b h1 h2 e => by have := own_ge own e; omega)
          replace x4 := x4.rel r30 (by first | assumption | exact own_not own x4 (by decide) | exact own_far own (by omega))
          replace x6 := x6.rel r30 (by first | assumption | exact own_not own x6 (by decide) | exact own_far own (by omega))
          replace x29 := x29.rel r30 (by first | assumption | exact own_not own x29 (by decide) | exact own_far own (by omega))
          replace E := E.then r30 (fun x hx e => show w.heap.size ≤ x by have := own_ge own e; omega)
          replace E9 := E9.then r30 (fun x hx e => show x = b2 ∨ x = b6 ∨ w8.heap.size ≤ x by have := own_ge own e; omega)
          replace hS : Rel (fun x => x = b2 ∨ w25.heap.size ≤ x) w25 w30 ∧ TapeOk w30 b2 := ⟨hS.1.then r30 (fun x hx e => show x = b2 ∨ w25.heap.size ≤ x by have := own_ge own e; omega), ht⟩
          replace own := o30; clear o30
          refine ⟨.inr hS, ?_⟩
          refine Sx.dt (i := 14) rfl (by kernel_rfl) (by kernel_rfl) (by kernel_rfl) (by kernel_rfl) (fun _ _ _ _ h => h) rfl (wnt0 rfl) (fun wv h2 => r_fa fo31_4 rfl) hS ?_
          refine Sx.da1 (i := 15) (by kernel_rfl) ?_
          refine Sx.wyu rfl (wnt0 rfl) (u_st sz29 rfl rfl rfl rfl x6 rfl) rfl ?_
          rintro w31 ⟨r31, z31, x31n⟩
          replace ht := tape_rel ht r31 (fun b hb (e : b = b6) => by omega)
          replace HX := HX.ch r31 (by omega)
          replace x4 := x4.ch r31 (by omega)
          replace own := own_rel own r31 (fun q hq (e : q = b6) => by subst e; first | exact own_not own (by assumption) (by decide) hq.symm | exact own_far own (by omega) hq.symm)
          replace E := E.then r31 (fun x hx (e : x = b6) => show w.heap.size ≤ x by omega)
          replace E9 := E9.then r31 (fun x hx (e : x = b6) => show x = b2 ∨ x = b6 ∨ w8.heap.size ≤ x by omega)
          replace x6 := x31n; clear x31n
          refine ⟨.inl rfl, ?_⟩
          refine Sx.dz (by kernel_rfl) ?_
          clear hS d_HX d_x4 d_x6
          refine Sx.nB ?_
          refine Sx.nT ?_
          have hle : (x.m ++ [(⟨z27, z28⟩ : T2)]).length = 0 + x.m.length + 1 := by simp
          have hrow : Row w31 w2.heap.size 2 A30 (x.m ++ [(⟨z27, z28⟩ : T2)]).length (v2 (x.m ++ [(⟨z27, z28⟩ : T2)])) := by
            rw [hle, v2_snoc]
            have h9 := row_of_own own
            rw [List.nil_append] at h9
            exact h9.base (by have := HX.le; omega)
          have hxm : Bx w31 b6 [.int .i64 (⟨x.c, x.k, x.g, x.s, x.m ++ [(⟨z27, z28⟩ : T2)]⟩ : Rt).c, .int .i64 (⟨x.c, x.k, x.g, x.s, x.m ++ [(⟨z27, z28⟩ : T2)]⟩ : Rt).k, .slice (⟨v.A1, v.c1, v.A2, v.c2, A30, c30⟩ : Vr).A1 (⟨x.c, x.k, x.g, x.s, x.m ++ [(⟨z27, z28⟩ : T2)]⟩ : Rt).g.length (⟨v.A1, v.c1, v.A2, v.c2, A30, c30⟩ : Vr).c1, .slice (⟨v.A1, v.c1, v.A2, v.c2, A30, c30⟩ : Vr).A2 (⟨x.c, x.k, x.g, x.s, x.m ++ [(⟨z27, z28⟩ : T2)]⟩ : Rt).s.length (⟨v.A1, v.c1, v.A2, v.c2, A30, c30⟩ : Vr).c2, .slice (⟨v.A1, v.c1, v.A2, v.c2, A30, c30⟩ : Vr).A3 (⟨x.c, x.k, x.g, x.s, x.m ++ [(⟨z27, z28⟩ : T2)]⟩ : Rt).m.length (⟨v.A1, v.c1, v.A2, v.c2, A30, c30⟩ : Vr).c3] 31 := by
            show Bx _ _ [.int .i64 x.c, .int .i64 x.k, .slice v.A1 x.g.length v.c1, .slice v.A2 x.s.length v.c2, .slice A30 (x.m ++ [(⟨z27, z28⟩ : T2)]).length c30] 31
            rw [hle]
            exact x6
          exact Sx.midE (⟨(⟨x.c, x.k, x.g, x.s, x.m ++ [(⟨z27, z28⟩ : T2)]⟩ : Rt), (⟨v.A1, v.c1, v.A2, v.c2, A30, c30⟩ : Vr)⟩) ⟨rfl, rfl, rfl, trivial⟩ ⟨E9, ht, hxm, ⟨HX.ok.r1, HX.ok.r2, hrow⟩, ⟨rfl, rfl, ⟨[], (List.append_nil _).symm⟩, ⟨[], (List.append_nil _).symm⟩, ⟨[(⟨z27, z28⟩ : T2)], rfl⟩⟩, ok_of ⟨by show 0 ≤ x.c; omega, by show x.c ≤ 24; omega⟩ ⟨by show 0 ≤ x.k; omega, by show x.k ≤ 24; omega⟩ (by show List.length x.g ≤ 100; omega) (by show List.length x.s ≤ 100; omega) (by show List.length (x.m ++ [(⟨z27, z28⟩ : T2)]) ≤ 100; rw [hle]; omega) hmk.g hmk.s (fun y hy => by rcases List.mem_append.1 hy with hy | hy; exact hmk.m y hy; rw [List.mem_singleton] at hy; subst hy; exact ⟨(show (0 : Int) ≤ z27 by omega), (show z27 < x.c by omega), (show (0 : Int) ≤ z28 by omega), (show z28 < x.c by omega)⟩)⟩
    · skip
      clear E9
      rintro ⟨m, vm⟩ fr w32 ⟨E9, htn, x6, hrm, hext, hokm⟩
      replace ht := htn; clear htn
      replace HX := HX.rel E9 (fun x h1 h2 => show ¬ (x = b2 ∨ x = b6 ∨ w8.heap.size ≤ x) by omega)
      replace x4 := x4.rel E9 (show ¬ (b4 = b2 ∨ b4 = b6 ∨ w8.heap.size ≤ b4) by omega)
      have s9_E := E.size
      replace E := E.then E9 (fun x hx (e : x = b2 ∨ x = b6 ∨ w8.heap.size ≤ x) => show w.heap.size ≤ x by omega)
      refine Sx.nT ?_
      show Code.wp _ _ _ (Fa fr [(3, .pointer (some ⟨b2, 0, none⟩)), (4, .pointer (some ⟨b4, 0, none⟩)), (5, .pointer (some ⟨b6, 0, none⟩))]) _
      have HM := Has.rl hrm
      have hszm : szs m := ⟨by have := hokm.lg; omega, by have := hokm.ls; omega, by have := hokm.lm; omega⟩
      have hmc := hext.c
      have hmk2 := hext.k
      refine Sx.seq ?_
      refine Sx.seq ?_
      refine Sx.reg ?_
      refine Sx.sv (r_as rfl) rfl (wnt0 rfl) ?_
      refine wnil ?_
      refine Sx.nT ?_
      refine Sx.blk ?_
      obtain ⟨n, hn⟩ : ∃ n : Nat, x.c = (n : Int) := ⟨x.c.toNat, by omega⟩
      have t33_HX := HX.le
      have t33_x4 := x4.lt
      have t33_x6 := x6.lt
      have t33_HM := HM.le
      refine Sx.lp (Nat) (fun c => [(6, .int .i64 (c : Int)), (4, .pointer (some ⟨b4, 0, none⟩)), (5, .pointer (some ⟨b6, 0, none⟩))]) (fun c wr => Rel (fun x => w32.heap.size ≤ x) w32 wr ∧ c ≤ n) (fun c => n - c) 0 ⟨rfl, rfl, rfl, trivial⟩ ⟨Rel.refl _ _, Nat.zero_le _⟩ ?_
      rintro c fr w33 ⟨E33, hcn⟩
      show Code.wp _ _ _ (Fa fr [(6, .int .i64 (c : Int)), (4, .pointer (some ⟨b4, 0, none⟩)), (5, .pointer (some ⟨b6, 0, none⟩))]) _
      replace ht := tape_rel ht E33 (fun x hx => show ¬ (w32.heap.size ≤ x) by omega)
      replace HX := HX.rel E33 (fun x h1 h2 => show ¬ (w32.heap.size ≤ x) by omega)
      replace x4 := x4.rel E33 (show ¬ (w32.heap.size ≤ b4) by omega)
      replace x6 := x6.rel E33 (show ¬ (w32.heap.size ≤ b6) by omega)
      replace HM := HM.rel E33 (fun x h1 h2 => show ¬ (w32.heap.size ≤ x) by omega)
      have s33_E := E.size
      replace E := E.then E33 (fun x hx (e : w32.heap.size ≤ x) => show w.heap.size ≤ x by omega)
      refine Sx.seq ?_
      refine Sx.seq ?_
      refine Sx.reg ?_
      refine Sx.sv (r_mv rfl) rfl (wnt0 rfl) ?_
      refine Sx.sv (r_fa fo31_0 rfl) rfl (wnt0 rfl) ?_
      refine Sx.sv (r_ld ty3 rfl (x4.seg) rfl) rfl (wnt0 rfl) ?_
      refine Sx.sv (r_lt rfl rfl) rfl (wnt0 rfl) ?_
      refine wnil ?_
      refine Sx.nT ?_
      by_cases hlt : c < n
      · refine Sx.ct rfl (decide_eq_true (by omega)) ?_
        refine wp_skip ?_
        refine Sx.nT ?_
        refine Sx.seq ?_
        refine Sx.blk ?_
        refine Sx.seq ?_
        have hc : 0 ≤ (c : Int) ∧ (c : Int) < x.c := ⟨by omega, by omega⟩
        have hcm : 0 ≤ (c : Int) ∧ (c : Int) < m.c := ⟨by omega, by omega⟩
        have hpl : (pwr x c).length = x.k.toNat := pw_len _ _
        have hql : (pwr m c).length = m.k.toNat := pw_len _ _
        refine Sx.drg 8 (fun w34 wv => Rel (fun x => w34.heap.size ≤ x) w34 wv) mx (fun w34 hd => ?_)
        replace ht := tape_rel ht hd (fun _ _ h => h)
        replace HX := HX.nw hd
        replace x4 := x4.nw hd
        replace x6 := x6.nw hd
        replace HM := HM.nw hd
        replace E := E.then hd (fun _ _ h => h.elim)
        replace E33 := E33.then hd (fun _ _ h => h.elim)
        have sd34_E := E.size
        have sd34_E33 := E33.size
        have q_HX := HX.le
        have q_x4 := x4.lt
        have q_x6 := x6.lt
        have q_HM := HM.le
        have d_HX := HX
        have d_x4 := x4
        have d_x6 := x6
        have d_HM := HM
        have hS : Rel (fun x => w34.heap.size ≤ x) w34 w34 := Rel.refl _ _
        refine Sx.dt (i := 0) rfl (by kernel_rfl) (by kernel_rfl) (by kernel_rfl) (by kernel_rfl) (fun _ _ _ _ h => h) rfl (wnt0 rfl) (fun wv h2 => r_ldr ty31 rfl ((d_x4.rel h2 (show ¬ (w34.heap.size ≤ b4) from by omega)).seg) rfl) hS ?_
        refine Sx.dt (i := 1) rfl (by kernel_rfl) (by kernel_rfl) (by kernel_rfl) (by kernel_rfl) (fun _ _ _ _ h => h) rfl (wnt0 rfl) (fun wv h2 => r_mv rfl) hS ?_
        refine Sx.dt (i := 3) rfl (by kernel_rfl) (by kernel_rfl) (by kernel_rfl) (by kernel_rfl) (fun _ _ _ _ h => h) rfl (wnt0 rfl) (fun wv h2 => r_ldr ty31 rfl ((d_x6.rel h2 (show ¬ (w34.heap.size ≤ b6) from by omega)).seg) rfl) hS ?_
        refine Sx.dt (i := 4) rfl (by kernel_rfl) (by kernel_rfl) (by kernel_rfl) (by kernel_rfl) (fun _ _ _ _ h => h) rfl (wnt0 rfl) (fun wv h2 => r_mv rfl) hS ?_
        have tq35_ht := tape_lt ht
        refine Sx.da1 (i := 2) (by kernel_rfl) ?_
        refine Sx.wc rfl (wnt0 rfl) rfl (r_call en11 rfl) (power_yes x v c _ (HX.ok.base (Nat.zero_le _)) hsz ⟨hok, hc⟩) ?_
        rintro e w35 ⟨Ap, cp, rfl, hpo, hb35⟩
        have r35 := Rel.of0 hb35
        replace ht := tape_rel ht r35 (fun _ _ h => h)
        replace HX := HX.nw r35
        replace x4 := x4.nw r35
        replace x6 := x6.nw r35
        replace HM := HM.nw r35
        replace E := E.then r35 (fun _ _ h => h.elim)
        replace E33 := E33.then r35 (fun _ _ h => h.elim)
        replace hS : Rel (fun x => w34.heap.size ≤ x) w34 w35 := hS.then r35 (fun _ _ h => h.elim)
        refine ⟨_, rfl, .inr hS, ?_⟩
        have HP := Has.row (row_of_own hpo)
        have tq36_ht := tape_lt ht
        refine Sx.da1 (i := 5) (by kernel_rfl) ?_
        refine Sx.wc rfl (wnt0 rfl) rfl (r_call en11 rfl) (power_yes m vm c _ (HM.ok.base (Nat.zero_le _)) hszm ⟨hokm, hcm⟩) ?_
        rintro e w36 ⟨Aq, cq, rfl, hqo, hb36⟩
        have r36 := Rel.of0 hb36
        replace ht := tape_rel ht r36 (fun _ _ h => h)
        replace HX := HX.nw r36
        replace x4 := x4.nw r36
        replace x6 := x6.nw r36
        replace HM := HM.nw r36
        replace HP := HP.nw r36
        replace E := E.then r36 (fun _ _ h => h.elim)
        replace E33 := E33.then r36 (fun _ _ h => h.elim)
        replace hS : Rel (fun x => w34.heap.size ≤ x) w34 w36 := hS.then r36 (fun _ _ h => h.elim)
        refine ⟨_, rfl, .inr hS, ?_⟩
        have HQ := Has.row (row_of_own hqo)
        refine Sx.dt (i := 6) rfl (by kernel_rfl) (by kernel_rfl) (by kernel_rfl) (by kernel_rfl) (fun _ _ _ _ h => h) rfl (wnt0 rfl) (fun wv h2 => r_as rfl) hS ?_
        refine Sx.dt (i := 7) rfl (by kernel_rfl) (by kernel_rfl) (by kernel_rfl) (by kernel_rfl) (fun _ _ _ _ h => h) rfl (wnt0 rfl) (fun wv h2 => r_as rfl) hS ?_
        refine Sx.dz (by kernel_rfl) ?_
        clear hS d_HX d_x4 d_x6 d_HM
        refine Sx.nT ?_
        refine Sx.seq ?_
        refine Sx.seq ?_
        refine Sx.reg ?_
        refine Sx.sv (r_mv rfl) rfl (wnt0 rfl) ?_
        refine Sx.sv (r_ln Try.underlying22 rfl) rfl (wnt0 rfl) ?_
        refine Sx.sv (r_fa fo31_1 rfl) rfl (wnt0 rfl) ?_
        refine Sx.sv (r_ld ty3 rfl (x4.seg) rfl) rfl (wnt0 rfl) ?_
        refine Sx.sv (r_ne rfl rfl) rfl (wnt0 rfl) ?_
        refine Sx.sv (r_mv rfl) rfl (wnt0 rfl) ?_
        refine Sx.sv (r_mv rfl) rfl (wnt1 (dj := 94) (b0 := false) rfl rfl rfl rfl (decide_eq_false (by omega)) rfl) ?_
        refine Sx.sv (r_ln Try.underlying22 rfl) rfl (wnt1 (dj := 94) (b0 := false) rfl rfl rfl rfl (decide_eq_false (by omega)) rfl) ?_
        refine Sx.sv (r_fa fo31_1 rfl) rfl (wnt1 (dj := 94) (b0 := false) rfl rfl rfl rfl (decide_eq_false (by omega)) rfl) ?_
        refine Sx.sv (r_ld ty3 rfl (x4.seg) rfl) rfl (wnt1 (dj := 94) (b0 := false) rfl rfl rfl rfl (decide_eq_false (by omega)) rfl) ?_
        refine Sx.sv (r_ne rfl rfl) rfl (wnt1 (dj := 94) (b0 := false) rfl rfl rfl rfl (decide_eq_false (by omega)) rfl) ?_
        refine Sx.sv (r_pkF rfl (decide_eq_false (by omega)) rfl) rfl (wnt0 rfl) ?_
        refine wnil ?_
        refine Sx.nT ?_
        refine Sx.cf rfl (decide_eq_false (by omega)) ?_
        refine wp_skip ?_
        refine Sx.nT ?_
        refine Sx.seq ?_
        refine Sx.seq ?_
        refine Sx.reg ?_
        refine Sx.sv (r_mv rfl) rfl (wnt0 rfl) ?_
        refine Sx.sv (r_ln Try.underlying22 rfl) rfl (wnt0 rfl) ?_
        refine Sx.sv (r_mv rfl) rfl (wnt0 rfl) ?_
        refine wnil ?_
        refine Sx.nT ?_
        refine Sx.blk ?_
        have t37_HX := HX.le
        have t37_x4 := x4.lt
        have t37_x6 := x6.lt
        have t37_HM := HM.le
        have t37_HP := HP.le
        have t37_HQ := HQ.le
        refine Sx.lp (Nat) (fun i => [(103, .int .i64 (i : Int)), (102, .int .i64 ((pwr x c).length : Int)), (7, .slice Ap (pwr x c).length cp), (8, .slice Aq (pwr m c).length cq), (6, .int .i64 (c : Int)), (4, .pointer (some ⟨b4, 0, none⟩)), (5, .pointer (some ⟨b6, 0, none⟩))]) (fun i wr => Rel (fun x => w36.heap.size ≤ x) w36 wr ∧ i ≤ (pwr x c).length) (fun i => (pwr x c).length - i) 0 ⟨rfl, rfl, rfl, rfl, rfl, rfl, rfl, trivial⟩ ⟨Rel.refl _ _, Nat.zero_le _⟩ ?_
        rintro i fr w37 ⟨E37, hi⟩
        show Code.wp _ _ _ (Fa fr [(103, .int .i64 (i : Int)), (102, .int .i64 ((pwr x c).length : Int)), (7, .slice Ap (pwr x c).length cp), (8, .slice Aq (pwr m c).length cq), (6, .int .i64 (c : Int)), (4, .pointer (some ⟨b4, 0, none⟩)), (5, .pointer (some ⟨b6, 0, none⟩))]) _
        replace ht := tape_rel ht E37 (fun x hx => show ¬ (w36.heap.size ≤ x) by omega)
        replace HX := HX.rel E37 (fun x h1 h2 => show ¬ (w36.heap.size ≤ x) by omega)
        replace x4 := x4.rel E37 (show ¬ (w36.heap.size ≤ b4) by omega)
        replace x6 := x6.rel E37 (show ¬ (w36.heap.size ≤ b6) by omega)
        replace HM := HM.rel E37 (fun x h1 h2 => show ¬ (w36.heap.size ≤ x) by omega)
        replace HP := HP.rel E37 (fun x h1 h2 => show ¬ (w36.heap.size ≤ x) by omega)
        replace HQ := HQ.rel E37 (fun x h1 h2 => show ¬ (w36.heap.size ≤ x) by omega)
        have s37_E := E.size
        replace E := E.then E37 (fun x hx (e : w36.heap.size ≤ x) => show w.heap.size ≤ x by omega)
        have s37_E33 := E33.size
        replace E33 := E33.then E37 (fun x hx (e : w36.heap.size ≤ x) => show w32.heap.size ≤ x by omega)
        refine Sx.seq ?_
        refine Sx.reg ?_
        refine Sx.sv (r_lt rfl rfl) rfl (wnt0 rfl) ?_
        refine wnil ?_
        refine Sx.nT ?_
        refine Sx.seq ?_
        by_cases hlt2 : i < (pwr x c).length
        · refine Sx.ct rfl (decide_eq_true (by omega)) ?_
          obtain ⟨ba, oa, hA1, -, hba, hca⟩ := HQ.ok.z (show i < (pwr m c).length by omega)
          obtain ⟨bp, op, hA2, -, hbp, hcp⟩ := HP.ok.z hlt2
          have m1 : Me _ ba (oa + i) [_] := .one hba hca
          have m2 : Me _ bp (op + i) [_] := .one hbp hcp
          refine wp_skip ?_
          refine Sx.nT ?_
          refine Sx.seq ?_
          refine Sx.blk ?_
          refine Sx.seq ?_
          refine Sx.reg ?_
          refine Sx.sv (r_mv rfl) rfl (wnt0 rfl) ?_
          refine Sx.sv (r_as rfl) rfl (wnt0 rfl) ?_
          refine wnil ?_
          refine Sx.nT ?_
          refine Sx.seq ?_
          refine Sx.drg 9 (fun w38 wv => Rel (fun x => False) w38 wv) mx (fun w38 hd => ?_)
          replace ht := tape_rel ht hd (fun _ _ h => h)
          replace HX := HX.nw hd
          replace x4 := x4.nw hd
          replace x6 := x6.nw hd
          replace HM := HM.nw hd
          replace HP := HP.nw hd
          replace HQ := HQ.nw hd
          replace m1 := m1.nw hd
          replace m2 := m2.nw hd
          replace E := E.then hd (fun _ _ h => h.elim)
          replace E33 := E33.then hd (fun _ _ h => h.elim)
          replace E37 := E37.then hd (fun _ _ h => h.elim)
          have sd38_E := E.size
          have sd38_E33 := E33.size
          have sd38_E37 := E37.size
          have q_HX := HX.le
          have q_x4 := x4.lt
          have q_x6 := x6.lt
          have q_HM := HM.le
          have q_HP := HP.le
          have q_HQ := HQ.le
          have q_m1 := m1.lt
          have q_m2 := m2.lt
          have d_HX := HX
          have d_x4 := x4
          have d_x6 := x6
          have d_HM := HM
          have d_HP := HP
          have d_HQ := HQ
          have d_m1 := m1
          have d_m2 := m2
          have hS : Rel (fun x => False) w38 w38 := Rel.refl _ _
          refine Sx.dt (i := 0) rfl (by kernel_rfl) (by kernel_rfl) (by kernel_rfl) (by kernel_rfl) (fun _ _ _ _ h => h) rfl (wnt0 rfl) (fun wv h2 => r_mv rfl) hS ?_
          refine Sx.dt (i := 1) rfl (by kernel_rfl) (by kernel_rfl) (by kernel_rfl) (by kernel_rfl) (fun _ _ _ _ h => h) rfl (wnt0 rfl) (fun wv h2 => r_mv rfl) hS ?_
          refine Sx.dt (i := 4) rfl (by kernel_rfl) (by kernel_rfl) (by kernel_rfl) (by kernel_rfl) (fun _ _ _ _ h => h) rfl (wnt0 rfl) (fun wv h2 => r_mv rfl) hS ?_
          refine Sx.dt (i := 5) rfl (by kernel_rfl) (by kernel_rfl) (by kernel_rfl) (by kernel_rfl) (fun _ _ _ _ h => h) rfl (wnt0 rfl) (fun wv h2 => r_mv rfl) hS ?_
          refine Sx.dt (i := 2) rfl (by kernel_rfl) (by kernel_rfl) (by kernel_rfl) (by kernel_rfl) (fun _ _ _ _ h => h) rfl (wnt0 rfl) (fun wv h2 => r_ix1i ix22 rfl (by first | rfl | assumption) rfl (by first | rfl | assumption) (by omega)) hS ?_
          refine Sx.dt (i := 6) rfl (by kernel_rfl) (by kernel_rfl) (by kernel_rfl) (by kernel_rfl) (fun _ _ _ _ h => h) rfl (wnt0 rfl) (fun wv h2 => r_ix1i ix22 rfl (by first | rfl | assumption) rfl (by first | rfl | assumption) (by omega)) hS ?_
          refine Sx.dt (i := 3) rfl (by kernel_rfl) (by kernel_rfl) (by kernel_rfl) (by kernel_rfl) (fun _ _ _ _ h => h) rfl (wnt0 rfl) (fun wv h2 => r_ld0 ty3 rfl ((d_m1.rel h2 (show ¬ (False) from id)).seg) rfl) hS ?_
          refine Sx.dt (i := 7) rfl (by kernel_rfl) (by kernel_rfl) (by kernel_rfl) (by kernel_rfl) (fun _ _ _ _ h => h) rfl (wnt0 rfl) (fun wv h2 => r_ld0 ty3 rfl ((d_m2.rel h2 (show ¬ (False) from id)).seg) rfl) hS ?_
          refine Sx.dt (i := 8) rfl (by kernel_rfl) (by kernel_rfl) (by kernel_rfl) (by kernel_rfl) (fun _ _ _ _ h => h) rfl (wnt0 rfl) (fun wv h2 => r_lt rfl rfl) hS ?_
          refine Sx.dz (by kernel_rfl) ?_
          clear hS d_HX d_x4 d_x6 d_HM d_HP d_HQ d_m1 d_m2
          refine Sx.nT ?_
          have hle : e0 (pwr x c) i ≤ e0 (pwr m c) i := by
            unfold pwr
            rw [pw_at _ _ (by omega), pw_at _ _ (by omega)]
            exact hext.gt _
          refine Sx.cf rfl (decide_eq_false (by omega)) ?_
          refine wp_skip ?_
          refine Sx.nB ?_
          refine Sx.nT ?_
          refine Sx.reg ?_
          refine Sx.sv (r_add rfl rfl (by omega) (by omega)) rfl (wnt0 rfl) ?_
          refine Sx.sv (r_mv rfl) rfl (wnt0 rfl) ?_
          refine wnil ?_
          refine Sx.nT ?_
          exact Sx.lpe (i + 1) ⟨rfl, rfl, rfl, rfl, rfl, rfl, rfl, trivial⟩ ⟨E37, hlt2⟩ (show _ - (i + 1) < _ - i by omega)
        · refine Sx.cf rfl (decide_eq_false (by omega)) ?_
          refine wp_exit ?_
          refine Sx.eT ?_
          refine Sx.eT ?_
          refine Sx.eB ?_
          refine Sx.nT ?_
          refine Sx.seq ?_
          refine Sx.reg ?_
          refine Sx.sv (r_ldr ty31 rfl (x4.seg) rfl) rfl (wnt0 rfl) ?_
          refine Sx.sv (r_mv rfl) rfl (wnt0 rfl) ?_
          have tq39_ht := tape_lt ht
          refine Sx.sc (r_call en10 rfl) rfl (wnt0 rfl) (reach_yes x v c _ (HX.ok.base (Nat.zero_le _)) hsz ⟨hok, hc⟩) ?_
          rintro e w39 ⟨Ar, cr, rfl, hro, hb39⟩
          refine ⟨_, rfl, ?_⟩
          have r39 := Rel.of0 hb39
          replace ht := tape_rel ht r39 (fun _ _ h => h)
          replace HX := HX.nw r39
          replace x4 := x4.nw r39
          replace x6 := x6.nw r39
          replace HM := HM.nw r39
          replace HP := HP.nw r39
          replace HQ := HQ.nw r39
          replace E := E.then r39 (fun _ _ h => h.elim)
          replace E33 := E33.then r39 (fun _ _ h => h.elim)
          have HR := Has.row (row_of_own hro)
          have hrl := rl_len hok c
          refine Sx.sv (r_ln Try.underlying22 rfl) rfl (wnt0 rfl) ?_
          refine Sx.sv (r_mv rfl) rfl (wnt0 rfl) ?_
          refine wnil ?_
          refine Sx.nT ?_
          refine Sx.blk ?_
          have t40_HX := HX.le
          have t40_x4 := x4.lt
          have t40_x6 := x6.lt
          have t40_HM := HM.le
          have t40_HP := HP.le
          have t40_HQ := HQ.le
          have t40_HR := HR.le
          refine Sx.lp (Nat) (fun j => [(120, .int .i64 (j : Int)), (118, .slice Ar (rl x c).length cr), (119, .int .i64 ((rl x c).length : Int)), (7, .slice Ap (pwr x c).length cp), (6, .int .i64 (c : Int)), (4, .pointer (some ⟨b4, 0, none⟩)), (5, .pointer (some ⟨b6, 0, none⟩))]) (fun j wr => Rel (fun x => w39.heap.size ≤ x) w39 wr ∧ j ≤ (rl x c).length) (fun j => (rl x c).length - j) 0 ⟨rfl, rfl, rfl, rfl, rfl, rfl, rfl, trivial⟩ ⟨Rel.refl _ _, Nat.zero_le _⟩ ?_
          rintro j fr w40 ⟨E40, hj⟩
          show Code.wp _ _ _ (Fa fr [(120, .int .i64 (j : Int)), (118, .slice Ar (rl x c).length cr), (119, .int .i64 ((rl x c).length : Int)), (7, .slice Ap (pwr x c).length cp), (6, .int .i64 (c : Int)), (4, .pointer (some ⟨b4, 0, none⟩)), (5, .pointer (some ⟨b6, 0, none⟩))]) _
          replace ht := tape_rel ht E40 (fun x hx => show ¬ (w39.heap.size ≤ x) by omega)
          replace HX := HX.rel E40 (fun x h1 h2 => show ¬ (w39.heap.size ≤ x) by omega)
          replace x4 := x4.rel E40 (show ¬ (w39.heap.size ≤ b4) by omega)
          replace x6 := x6.rel E40 (show ¬ (w39.heap.size ≤ b6) by omega)
          replace HM := HM.rel E40 (fun x h1 h2 => show ¬ (w39.heap.size ≤ x) by omega)
          replace HP := HP.rel E40 (fun x h1 h2 => show ¬ (w39.heap.size ≤ x) by omega)
          replace HQ := HQ.rel E40 (fun x h1 h2 => show ¬ (w39.heap.size ≤ x) by omega)
          replace HR := HR.rel E40 (fun x h1 h2 => show ¬ (w39.heap.size ≤ x) by omega)
          have s40_E := E.size
          replace E := E.then E40 (fun x hx (e : w39.heap.size ≤ x) => show w.heap.size ≤ x by omega)
          have s40_E33 := E33.size
          replace E33 := E33.then E40 (fun x hx (e : w39.heap.size ≤ x) => show w32.heap.size ≤ x by omega)
          refine Sx.seq ?_
          refine Sx.reg ?_
          refine Sx.sv (r_lt rfl rfl) rfl (wnt0 rfl) ?_
          refine wnil ?_
          refine Sx.nT ?_
          refine Sx.seq ?_
          by_cases hlt3 : j < (rl x c).length
          · refine Sx.ct rfl (decide_eq_true (by omega)) ?_
            obtain ⟨ba, oa, hA1, -, hba, hca⟩ := HR.ok.z hlt3
            have m1 : Me _ ba (oa + j) [_] := .one hba hca
            have hq := (rl_mem hok hc _).1 (e0_mem hlt3)
            have hqr := hq.rng hok hc
            have hyl : (pwr x (e0 (rl x c) j)).length = x.k.toNat := pw_len _ _
            refine wp_skip ?_
            refine Sx.nT ?_
            refine Sx.seq ?_
            refine Sx.blk ?_
            refine Sx.seq ?_
            refine Sx.reg ?_
            refine Sx.sv (r_ix1i ix22 rfl (by first | rfl | assumption) rfl (by first | rfl | assumption) (by omega)) rfl (wnt0 rfl) ?_
            refine Sx.sv (r_ld0 ty3 rfl (m1.seg) rfl) rfl (wnt0 rfl) ?_
            refine Sx.sv (r_as rfl) rfl (wnt0 rfl) ?_
            refine wnil ?_
            refine Sx.nT ?_
            refine Sx.seq ?_
            refine Sx.reg ?_
            refine Sx.sv (r_ldr ty31 rfl (x4.seg) rfl) rfl (wnt0 rfl) ?_
            refine Sx.sv (r_mv rfl) rfl (wnt0 rfl) ?_
            have tq41_ht := tape_lt ht
            refine Sx.sc (r_call en11 rfl) rfl (wnt0 rfl) (power_yes x v (e0 (rl x c) j) _ (HX.ok.base (Nat.zero_le _)) hsz ⟨hok, hqr⟩) ?_
            rintro e w41 ⟨Ay, cy, rfl, hyo, hb41⟩
            refine ⟨_, rfl, ?_⟩
            have r41 := Rel.of0 hb41
            replace ht := tape_rel ht r41 (fun _ _ h => h)
            replace HX := HX.nw r41
            replace x4 := x4.nw r41
            replace x6 := x6.nw r41
            replace HM := HM.nw r41
            replace HP := HP.nw r41
            replace HQ := HQ.nw r41
            replace HR := HR.nw r41
            replace E := E.then r41 (fun _ _ h => h.elim)
            replace E33 := E33.then r41 (fun _ _ h => h.elim)
            replace E40 := E40.then r41 (fun _ _ h => h.elim)
            have HY := Has.row (row_of_own hyo)
            refine Sx.sv (r_as rfl) rfl (wnt0 rfl) ?_
            refine wnil ?_
            refine Sx.nT ?_
            refine Sx.seq ?_
            refine Sx.seq ?_
            refine Sx.reg ?_
            refine Sx.sv (r_mv rfl) rfl (wnt0 rfl) ?_
            refine Sx.sv (r_ln Try.underlying22 rfl) rfl (wnt0 rfl) ?_
            refine Sx.sv (r_mv rfl) rfl (wnt0 rfl) ?_
            refine Sx.sv (r_ln Try.underlying22 rfl) rfl (wnt0 rfl) ?_
            refine Sx.sv (r_ne rfl rfl) rfl (wnt0 rfl) ?_
            refine wnil ?_
            refine Sx.nT ?_
            refine Sx.cf rfl (decide_eq_false (by omega)) ?_
            refine wp_skip ?_
            refine Sx.nT ?_
            refine Sx.seq ?_
            refine Sx.reg ?_
            refine Sx.sv (r_mv rfl) rfl (wnt0 rfl) ?_
            refine Sx.sv (r_ln Try.underlying22 rfl) rfl (wnt0 rfl) ?_
            refine Sx.sv (r_mv rfl) rfl (wnt0 rfl) ?_
            refine wnil ?_
            refine Sx.nT ?_
            refine Sx.blk ?_
            have t42_HX := HX.le
            have t42_x4 := x4.lt
            have t42_x6 := x6.lt
            have t42_HM := HM.le
            have t42_HP := HP.le
            have t42_HQ := HQ.le
            have t42_HR := HR.le
            have t42_HY := HY.le
            refine Sx.lp (Nat) (fun i => [(134, .int .i64 (i : Int)), (133, .int .i64 ((pwr x c).length : Int)), (12, .slice Ay (pwr x (e0 (rl x c) j)).length cy), (120, .int .i64 (j : Int)), (118, .slice Ar (rl x c).length cr), (119, .int .i64 ((rl x c).length : Int)), (7, .slice Ap (pwr x c).length cp), (6, .int .i64 (c : Int)), (4, .pointer (some ⟨b4, 0, none⟩)), (5, .pointer (some ⟨b6, 0, none⟩))]) (fun i wr => Rel (fun x => w41.heap.size ≤ x) w41 wr ∧ i ≤ (pwr x c).length) (fun i => (pwr x c).length - i) 0 ⟨rfl, rfl, rfl, rfl, rfl, rfl, rfl, rfl, rfl, rfl, trivial⟩ ⟨Rel.refl _ _, Nat.zero_le _⟩ ?_
            rintro i fr w42 ⟨E42, hi4⟩
            show Code.wp _ _ _ (Fa fr [(134, .int .i64 (i : Int)), (133, .int .i64 ((pwr x c).length : Int)), (12, .slice Ay (pwr x (e0 (rl x c) j)).length cy), (120, .int .i64 (j : Int)), (118, .slice Ar (rl x c).length cr), (119, .int .i64 ((rl x c).length : Int)), (7, .slice Ap (pwr x c).length cp), (6, .int .i64 (c : Int)), (4, .pointer (some ⟨b4, 0, none⟩)), (5, .pointer (some ⟨b6, 0, none⟩))]) _
            replace ht := tape_rel ht E42 (fun x hx => show ¬ (w41.heap.size ≤ x) by omega)
            replace HX := HX.rel E42 (fun x h1 h2 => show ¬ (w41.heap.size ≤ x) by omega)
            replace x4 := x4.rel E42 (show ¬ (w41.heap.size ≤ b4) by omega)
            replace x6 := x6.rel E42 (show ¬ (w41.heap.size ≤ b6) by omega)
            replace HM := HM.rel E42 (fun x h1 h2 => show ¬ (w41.heap.size ≤ x) by omega)
            replace HP := HP.rel E42 (fun x h1 h2 => show ¬ (w41.heap.size ≤ x) by omega)
            replace HQ := HQ.rel E42 (fun x h1 h2 => show ¬ (w41.heap.size ≤ x) by omega)
            replace HR := HR.rel E42 (fun x h1 h2 => show ¬ (w41.heap.size ≤ x) by omega)
            replace HY := HY.rel E42 (fun x h1 h2 => show ¬ (w41.heap.size ≤ x) by omega)
            have s42_E := E.size
            replace E := E.then E42 (fun x hx (e : w41.heap.size ≤ x) => show w.heap.size ≤ x by omega)
            have s42_E33 := E33.size
            replace E33 := E33.then E42 (fun x hx (e : w41.heap.size ≤ x) => show w32.heap.size ≤ x by omega)
            have s42_E40 := E40.size
            replace E40 := E40.then E42 (fun x hx (e : w41.heap.size ≤ x) => show w39.heap.size ≤ x by omega)
            refine Sx.seq ?_
            refine Sx.reg ?_
            refine Sx.sv (r_lt rfl rfl) rfl (wnt0 rfl) ?_
            refine wnil ?_
            refine Sx.nT ?_
            refine Sx.seq ?_
            by_cases hlt4 : i < (pwr x c).length
            · refine Sx.ct rfl (decide_eq_true (by omega)) ?_
              obtain ⟨ba, oa, hA1, -, hba, hca⟩ := HY.ok.z (show i < (pwr x (e0 (rl x c) j)).length by omega)
              obtain ⟨bp, op, hA2, -, hbp, hcp⟩ := HP.ok.z hlt4
              have m1 : Me _ ba (oa + i) [_] := .one hba hca
              have m2 : Me _ bp (op + i) [_] := .one hbp hcp
              refine wp_skip ?_
              refine Sx.nT ?_
              refine Sx.seq ?_
              refine Sx.blk ?_
              refine Sx.seq ?_
              refine Sx.reg ?_
              refine Sx.sv (r_mv rfl) rfl (wnt0 rfl) ?_
              refine Sx.sv (r_as rfl) rfl (wnt0 rfl) ?_
              refine wnil ?_
              refine Sx.nT ?_
              refine Sx.seq ?_
              refine Sx.drg 9 (fun w43 wv => Rel (fun x => False) w43 wv) mx (fun w43 hd => ?_)
              replace ht := tape_rel ht hd (fun _ _ h => h)
              replace HX := HX.nw hd
              replace x4 := x4.nw hd
              replace x6 := x6.nw hd
              replace HM := HM.nw hd
              replace HP := HP.nw hd
              replace HQ := HQ.nw hd
              replace HR := HR.nw hd
              replace HY := HY.nw hd
              replace m1 := m1.nw hd
              replace m2 := m2.nw hd
              replace E := E.then hd (fun _ _ h => h.elim)
              replace E33 := E33.then hd (fun _ _ h => h.elim)
              replace E40 := E40.then hd (fun _ _ h => h.elim)
              replace E42 := E42.then hd (fun _ _ h => h.elim)
              have sd43_E := E.size
              have sd43_E33 := E33.size
              have sd43_E40 := E40.size
              have sd43_E42 := E42.size
              have q_HX := HX.le
              have q_x4 := x4.lt
              have q_x6 := x6.lt
              have q_HM := HM.le
              have q_HP := HP.le
              have q_HQ := HQ.le
              have q_HR := HR.le
              have q_HY := HY.le
              have q_m1 := m1.lt
              have q_m2 := m2.lt
              have d_HX := HX
              have d_x4 := x4
              have d_x6 := x6
              have d_HM := HM
              have d_HP := HP
              have d_HQ := HQ
              have d_HR := HR
              have d_HY := HY
              have d_m1 := m1
              have d_m2 := m2
              have hS : Rel (fun x => False) w43 w43 := Rel.refl _ _
              refine Sx.dt (i := 0) rfl (by kernel_rfl) (by kernel_rfl) (by kernel_rfl) (by kernel_rfl) (fun _ _ _ _ h => h) rfl (wnt0 rfl) (fun wv h2 => r_mv rfl) hS ?_
              refine Sx.dt (i := 1) rfl (by kernel_rfl) (by kernel_rfl) (by kernel_rfl) (by kernel_rfl) (fun _ _ _ _ h => h) rfl (wnt0 rfl) (fun wv h2 => r_mv rfl) hS ?_
              refine Sx.dt (i := 4) rfl (by kernel_rfl) (by kernel_rfl) (by kernel_rfl) (by kernel_rfl) (fun _ _ _ _ h => h) rfl (wnt0 rfl) (fun wv h2 => r_mv rfl) hS ?_
              refine Sx.dt (i := 5) rfl (by kernel_rfl) (by kernel_rfl) (by kernel_rfl) (by kernel_rfl) (fun _ _ _ _ h => h) rfl (wnt0 rfl) (fun wv h2 => r_mv rfl) hS ?_
              refine Sx.dt (i := 2) rfl (by kernel_rfl) (by kernel_rfl) (by kernel_rfl) (by kernel_rfl) (fun _ _ _ _ h => h) rfl (wnt0 rfl) (fun wv h2 => r_ix1i ix22 rfl (by first | rfl | assumption) rfl (by first | rfl | assumption) (by omega)) hS ?_
              refine Sx.dt (i := 6) rfl (by kernel_rfl) (by kernel_rfl) (by kernel_rfl) (by kernel_rfl) (fun _ _ _ _ h => h) rfl (wnt0 rfl) (fun wv h2 => r_ix1i ix22 rfl (by first | rfl | assumption) rfl (by first | rfl | assumption) (by omega)) hS ?_
              refine Sx.dt (i := 3) rfl (by kernel_rfl) (by kernel_rfl) (by kernel_rfl) (by kernel_rfl) (fun _ _ _ _ h => h) rfl (wnt0 rfl) (fun wv h2 => r_ld0 ty3 rfl ((d_m1.rel h2 (show ¬ (False) from id)).seg) rfl) hS ?_
              refine Sx.dt (i := 7) rfl (by kernel_rfl) (by kernel_rfl) (by kernel_rfl) (by kernel_rfl) (fun _ _ _ _ h => h) rfl (wnt0 rfl) (fun wv h2 => r_ld0 ty3 rfl ((d_m2.rel h2 (show ¬ (False) from id)).seg) rfl) hS ?_
              refine Sx.dt (i := 8) rfl (by kernel_rfl) (by kernel_rfl) (by kernel_rfl) (by kernel_rfl) (fun _ _ _ _ h => h) rfl (wnt0 rfl) (fun wv h2 => r_gt rfl rfl) hS ?_
              refine Sx.dz (by kernel_rfl) ?_
              clear hS d_HX d_x4 d_x6 d_HM d_HP d_HQ d_HR d_HY d_m1 d_m2
              refine Sx.nT ?_
              have hle : e0 (pwr x (e0 (rl x c) j)) i ≤ e0 (pwr x c) i := by
                unfold pwr
                rw [pw_at _ _ (by omega), pw_at _ _ (by omega)]
                exact gt_reach hq _
              refine Sx.cf rfl (decide_eq_false (by omega)) ?_
              refine wp_skip ?_
              refine Sx.nB ?_
              refine Sx.nT ?_
              refine Sx.reg ?_
              refine Sx.sv (r_add rfl rfl (by omega) (by omega)) rfl (wnt0 rfl) ?_
              refine Sx.sv (r_mv rfl) rfl (wnt0 rfl) ?_
              refine wnil ?_
              refine Sx.nT ?_
              exact Sx.lpe (i + 1) ⟨rfl, rfl, rfl, rfl, rfl, rfl, rfl, rfl, rfl, rfl, trivial⟩ ⟨E42, hlt4⟩ (show _ - (i + 1) < _ - i by omega)
            · refine Sx.cf rfl (decide_eq_false (by omega)) ?_
              refine wp_exit ?_
              refine Sx.eT ?_
              refine Sx.eT ?_
              refine Sx.eB ?_
              refine Sx.nB ?_
              refine Sx.nT ?_
              refine Sx.reg ?_
              refine Sx.sv (r_add rfl rfl (by omega) (by omega)) rfl (wnt0 rfl) ?_
              refine Sx.sv (r_mv rfl) rfl (wnt0 rfl) ?_
              refine wnil ?_
              refine Sx.nT ?_
              exact Sx.lpe (j + 1) ⟨rfl, rfl, rfl, rfl, rfl, rfl, rfl, trivial⟩ ⟨E40, hlt3⟩ (show _ - (j + 1) < _ - j by omega)
          · refine Sx.cf rfl (decide_eq_false (by omega)) ?_
            refine wp_exit ?_
            refine Sx.eT ?_
            refine Sx.eT ?_
            refine Sx.eB ?_
            refine Sx.nB ?_
            refine Sx.nT ?_
            refine Sx.reg ?_
            refine Sx.sv (r_mv rfl) rfl (wnt0 rfl) ?_
            refine Sx.sv (r_add rfl rfl (by omega) (by omega)) rfl (wnt0 rfl) ?_
            refine Sx.sv (r_as rfl) rfl (wnt0 rfl) ?_
            refine wnil ?_
            refine Sx.nT ?_
            exact Sx.lpe (c + 1) ⟨rfl, rfl, rfl, trivial⟩ ⟨E33, hlt⟩ (show n - (c + 1) < n - c by omega)
      · refine Sx.cf rfl (decide_eq_false (by omega)) ?_
        refine wp_exit ?_
        refine Sx.eT ?_
        refine Sx.eT ?_
        refine Sx.eB ?_
        refine Sx.nT ?_
        refine Sx.seq ?_
        refine Sx.reg ?_
        have tq44_ht := tape_lt ht
        refine Sx.sc (r_call en7 rfl) rfl (wnt0 rfl) (awake_any _) ?_
        rintro e w44 ⟨rfl, hb44⟩
        refine ⟨_, rfl, ?_⟩
        have r44 := Rel.of0 hb44
        replace ht := tape_rel ht r44 (fun _ _ h => h)
        replace HX := HX.nw r44
        replace x4 := x4.nw r44
        replace x6 := x6.nw r44
        replace HM := HM.nw r44
        replace E := E.then r44 (fun _ _ h => h.elim)
        refine Sx.sv (r_as rfl) rfl (wnt0 rfl) ?_
        refine wnil ?_
        refine Sx.nT ?_
        refine wp_ret ?_
        exact Sx.ret1 Try.results4 rfl ⟨rfl, E.toB0⟩

/-! ### THE ROW's STEP: WRITTEN OUT: LEAVE IT -/
set_option maxRecDepth 100000 in
theorem lifted (os : Os) (started : os.Started) (H : Type) (enc : TypeId × Value → H) :
    ReturnsInHanded {} Try.checked os 4 .any (Rows.rightsGrowSpec.pre6 enc Try.prog Try.f4 Rows.rightsGrowRow.domain false) (Rows.rightsGrowSpec.post enc Try.prog Try.f4 false true false false) := by
  refine returnsInHanded_of_change (C := Try.checked) own started (by kernel_rfl) Try.func4
    (ChangeSpec.witness6 (enc := enc) (C := Try.checked) false ⟨#[], #[.slice none 0 0], []⟩ 8 (by kernel_rfl) (by kernel_rfl) (by kernel_rfl) (by kernel_rfl)) ?_
  intro W base args ds gs before hval0 hW hcnd _
  have hval : ∀ (j : Nat) t v, Try.f4.params[j]? = some t → args[j]? = some v → Value.okWide Try.prog W .any base t v := hval0
  have hW' := hW
  obtain ⟨p, q, hA0, hV, rfl, hfz, hnd⟩ := hW
  have hA : DataW.TrodAll enc Try.prog W 0 (fun _ => true) true Try.f4.params.toList args.toList ds p := hA0
  rw [Try.params4] at hA hval
  obtain ⟨v0, vs0, d0, ds0, p0, q0, hargs, rfl, rfl, h0, r0⟩ := trodAll_cons hA
  obtain ⟨rfl, rfl, rfl⟩ := trodAll_nil r0
  obtain rfl : args = #[v0] := by cases args; simp_all
  obtain ⟨rfl, rfl⟩ := trodVars_none hV
  obtain ⟨a0, len0, cap0, rfl⟩ := okWide_slice Try.underlying22 (hval 0 22 v0 rfl rfl)
  have k0 := h0
  have lt0 : ∀ x ∈ p0, x.block < W.heap.size := by obtain ⟨m, hm⟩ := k0; exact DataW.trod_lt m _ _ _ hm
  obtain ⟨z0, w0⟩ : ∃ zs, IsRow .i64 W a0 len0 cap0 zs := by
    obtain ⟨fuel, hf⟩ := h0
    rcases open_ints Try.underlying22 Try.underlying3 (by kernel_rfl) hf with ⟨hcs, _⟩ | ⟨x, l, c, zs, hcs, _, hl, hm, hz, _, hcell, hwz⟩
    · simp [Value.cells] at hcs
      obtain ⟨rfl, rfl, rfl⟩ := hcs
      exact ⟨[], .inl ⟨rfl, rfl, rfl, rfl⟩⟩
    · simp [Value.cells] at hcs
      obtain ⟨rfl, rfl, rfl⟩ := hcs
      exact ⟨zs, .inr ⟨_, rfl, hl, hm, by simpa using hz, hcell, hwz⟩⟩
  clear hA0 hval0
  refine (walk a0 len0 cap0 z0 W w0).mono fun e W' ⟨he, bel⟩ => ?_
  subst he
  exact ⟨_, rfl, _, _, _, [], _, [], hW', trodAll_mk1 (shut_bool Try.underlying4 _), (trodAll_cons_mk (Below.trod laidOut (by kernel_rfl) (of_decide_eq_true (by kernel_rfl)) k0 bel lt0) trodAll_mk0), rfl, bel.frame _, fun h => by cases h⟩

theorem over : Rows.rightsGrowRow.holds Try.pinned (OpenSpec.ofChange Rows.rightsGrowSpec) :=
  OpenClaim.holds_of_wide 4 Try.f4 rfl rfl rfl rfl rfl rfl rfl ⟨rfl, rfl, rfl, rfl, rfl⟩ rfl rfl rfl rfl rfl (by kernel_rfl) Try.func4 (by kernel_rfl)
    (of_decide_eq_true (by kernel_rfl)) (by unfold Func.isWrapper; first | (rw [if_pos (by decide +kernel)]; kernel_rfl) | (rw [if_neg (by decide +kernel)]; exact ⟨rfl, rfl⟩))
    (fun os started H enc _ => lifted os started H enc)

/-- ████ THE STATEMENT ████ -/
theorem proved : Rows.RightsGrowSaid := over
#print axioms proved
end Go.Proofs.Ytahggnlmabdbbaa.rightsGrow
