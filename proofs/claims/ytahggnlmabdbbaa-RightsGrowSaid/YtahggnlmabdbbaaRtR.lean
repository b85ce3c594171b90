import Derived.Test.YtahggnlmabdbbaaRtQ
namespace Go.Proofs.Ytahggnlmabdbbaa.Di
open Go.RowKit Go.Shelf Go.Maps
open Go.Proofs.Ytahggnlmabdbbaa.Tp
open Go.Proofs.Ytahggnlmabdbbaa.Sx
set_option linter.unusedVariables false
set_option maxRecDepth 100000 in
set_option maxHeartbeats 4000000 in
theorem in_yes (z a b : Int) (w : World) (h0 : a ≤ z) (h1 : z ≤ b) : Calls Try.prog 32 #[.int .i64 z, .int .i64 a, .int .i64 b] w fun e w' => e = .returned (.bool true) ∧ w = w' := by
  refine Sx.enter Try.func32 rfl Try.ntmps32 rfl (fun fr => ?_)
  refine Sx.seq ?_
  refine Sx.reg ?_
  refine Sx.sv (r_as rfl) rfl (wnt0 rfl) ?_
  refine wnil ?_
  refine Sx.nT ?_
  refine Sx.seq ?_
  refine Sx.reg ?_
  refine Sx.sv (r_mv rfl) rfl (wnt0 rfl) ?_
  refine Sx.sv (r_mv rfl) rfl (wnt0 rfl) ?_
  refine Sx.sv (r_ge rfl rfl) rfl (wnt0 rfl) ?_
  refine Sx.sv (r_mv rfl) rfl (wnt0 rfl) ?_
  refine Sx.sv (r_mv rfl) rfl (wnt1 (dj := 10) (b0 := true) rfl rfl rfl rfl (decide_eq_true (by omega)) rfl) ?_
  refine Sx.sv (r_mv rfl) rfl (wnt1 (dj := 10) (b0 := true) rfl rfl rfl rfl (decide_eq_true (by omega)) rfl) ?_
  refine Sx.sv (r_le rfl rfl) rfl (wnt1 (dj := 10) (b0 := true) rfl rfl rfl rfl (decide_eq_true (by omega)) rfl) ?_
  refine Sx.sv (r_pkT rfl (decide_eq_true (by omega)) rfl) rfl (wnt0 rfl) ?_
  refine Sx.sv (r_as rfl) rfl (wnt0 rfl) ?_
  refine wnil ?_
  refine Sx.nT ?_
  refine wp_ret ?_
  exact Sx.ret1 Try.results32 rfl ⟨by rw [decide_eq_true h1], rfl⟩
set_option maxRecDepth 100000 in
set_option maxHeartbeats 4000000 in
theorem rvalid_yes (x : Rt) (v : Vr) (w : World) (h : RL w 0 x v) (hok : Rok x) : Calls Try.prog 31 #[.agg (gr x v)] w fun e w' => e = .returned (.bool true) ∧ Below w.heap.size w w' := by
  have HX := Has.rl h
  have hc0 := hok.c0
  have hk0 := hok.k0
  have hlg := hok.lg
  have hls := hok.ls
  have hlm := hok.lm
  have hkc := hok.c1
  have hkk := hok.k1
  have E : Rel (fun x => w.heap.size ≤ x) w w := Rel.refl _ _
  refine Sx.enter Try.func31 rfl Try.ntmps31 rfl (fun fr => ?_)
  refine Sx.seq ?_
  refine Sx.reg ?_
  refine Sx.sy (y_box rfl rfl) rfl (wnt0 rfl) ?_
  rintro _ w1 ⟨b1, rfl, n1, x1⟩
  have g1 : w.heap.size ≤ b1 := Nat.le_trans E.size n1.ge
  replace E := E.then n1.r (fun _ _ h => h.elim)
  refine Sx.sv (r_as rfl) rfl (wnt0 rfl) ?_
  refine wnil ?_
  refine Sx.nT ?_
  refine Sx.seq ?_
  refine Sx.seq ?_
  refine Sx.reg ?_
  refine Sx.sv (r_fa fo31_0 rfl) rfl (wnt0 rfl) ?_
  refine Sx.sv (r_ld ty3 rfl (x1.seg) rfl) rfl (wnt0 rfl) ?_
  refine Sx.sc (r_call en32 rfl) rfl (wnt0 rfl) (in_yes _ _ _ _ (by omega) (by omega)) ?_
  rintro e w2 ⟨rfl, rfl⟩
  refine ⟨_, rfl, ?_⟩
  refine Sx.sv (r_not rfl) rfl (wnt0 rfl) ?_
  refine Sx.sv (r_mv rfl) rfl (wnt0 rfl) ?_
  refine Sx.sv (r_fa fo31_1 rfl) rfl (wnt1 (dj := 13) (b0 := false) rfl rfl rfl rfl (rfl) rfl) ?_
  refine Sx.sv (r_ld ty3 rfl (x1.seg) rfl) rfl (wnt1 (dj := 13) (b0 := false) rfl rfl rfl rfl (rfl) rfl) ?_
  refine Sx.sc (r_call en32 rfl) rfl (wnt1 (dj := 13) (b0 := false) rfl rfl rfl rfl (rfl) rfl) (in_yes _ _ _ _ (by omega) (by omega)) ?_
  rintro e w3 ⟨rfl, rfl⟩
  refine ⟨_, rfl, ?_⟩
  refine Sx.sv (r_not rfl) rfl (wnt1 (dj := 13) (b0 := false) rfl rfl rfl rfl (rfl) rfl) ?_
  refine Sx.sv (r_pkF rfl (rfl) rfl) rfl (wnt0 rfl) ?_
  refine Sx.sv (r_mv rfl) rfl (wnt0 rfl) ?_
  refine Sx.sv (r_fa fo31_2 rfl) rfl (wnt1 (dj := 19) (b0 := false) rfl rfl rfl rfl (rfl) rfl) ?_
  refine Sx.sv (r_ld ty27 rfl (x1.seg) rfl) rfl (wnt1 (dj := 19) (b0 := false) rfl rfl rfl rfl (rfl) rfl) ?_
  refine Sx.sv (r_ln Try.underlying27 rfl) rfl (wnt1 (dj := 19) (b0 := false) rfl rfl rfl rfl (rfl) rfl) ?_
  refine Sx.sv (r_gt rfl rfl) rfl (wnt1 (dj := 19) (b0 := false) rfl rfl rfl rfl (rfl) rfl) ?_
  refine Sx.sv (r_pkF rfl (rfl) rfl) rfl (wnt0 rfl) ?_
  refine Sx.sv (r_mv rfl) rfl (wnt0 rfl) ?_
  refine Sx.sv (r_fa fo31_3 rfl) rfl (wnt1 (dj := 25) (b0 := false) rfl rfl rfl rfl (decide_eq_false (by omega)) rfl) ?_
  refine Sx.sv (r_ld ty28 rfl (x1.seg) rfl) rfl (wnt1 (dj := 25) (b0 := false) rfl rfl rfl rfl (decide_eq_false (by omega)) rfl) ?_
  refine Sx.sv (r_ln Try.underlying28 rfl) rfl (wnt1 (dj := 25) (b0 := false) rfl rfl rfl rfl (decide_eq_false (by omega)) rfl) ?_
  refine Sx.sv (r_gt rfl rfl) rfl (wnt1 (dj := 25) (b0 := false) rfl rfl rfl rfl (decide_eq_false (by omega)) rfl) ?_
  refine Sx.sv (r_pkF rfl (decide_eq_false (by omega)) rfl) rfl (wnt0 rfl) ?_
  refine Sx.sv (r_mv rfl) rfl (wnt0 rfl) ?_
  refine Sx.sv (r_fa fo31_4 rfl) rfl (wnt1 (dj := 31) (b0 := false) rfl rfl rfl rfl (decide_eq_false (by omega)) rfl) ?_
  refine Sx.sv (r_ld ty29 rfl (x1.seg) rfl) rfl (wnt1 (dj := 31) (b0 := false) rfl rfl rfl rfl (decide_eq_false (by omega)) rfl) ?_
  refine Sx.sv (r_ln Try.underlying29 rfl) rfl (wnt1 (dj := 31) (b0 := false) rfl rfl rfl rfl (decide_eq_false (by omega)) rfl) ?_
  refine Sx.sv (r_gt rfl rfl) rfl (wnt1 (dj := 31) (b0 := false) rfl rfl rfl rfl (decide_eq_false (by omega)) rfl) ?_
  refine Sx.sv (r_pkF rfl (decide_eq_false (by omega)) rfl) rfl (wnt0 rfl) ?_
  refine wnil ?_
  refine Sx.nT ?_
  refine Sx.cf rfl (decide_eq_false (by omega)) ?_
  refine wp_skip ?_
  refine Sx.nT ?_
  refine Sx.seq ?_
  refine Sx.seq ?_
  refine Sx.reg ?_
  refine Sx.sv (r_fa fo31_2 rfl) rfl (wnt0 rfl) ?_
  refine Sx.sv (r_ld ty27 rfl (x1.seg) rfl) rfl (wnt0 rfl) ?_
  refine Sx.sv (r_ln Try.underlying27 rfl) rfl (wnt0 rfl) ?_
  refine Sx.sv (r_mv rfl) rfl (wnt0 rfl) ?_
  refine wnil ?_
  refine Sx.nT ?_
  refine Sx.blk ?_
  refine Sx.lp (Nat) (fun k => [(40, .int .i64 (k : Int)), (38, .slice v.A1 x.g.length v.c1), (39, .int .i64 (x.g.length : Int)), (1, .pointer (some ⟨b1, 0, none⟩))]) (fun k wr => k ≤ x.g.length ∧ Bx wr b1 [.int .i64 x.c, .int .i64 x.k, .slice v.A1 x.g.length v.c1, .slice v.A2 x.s.length v.c2, .slice v.A3 x.m.length v.c3] 31 ∧ Rel (fun x => w.heap.size ≤ x) w wr) (fun k => x.g.length - k) 0 ⟨rfl, rfl, rfl, rfl, trivial⟩ ⟨Nat.zero_le _, x1, E⟩ ?_
  rintro k fr w4 ⟨hk, x1, E⟩
  show Code.wp _ _ _ (Fa fr [(40, .int .i64 (k : Int)), (38, .slice v.A1 x.g.length v.c1), (39, .int .i64 (x.g.length : Int)), (1, .pointer (some ⟨b1, 0, none⟩))]) _
  refine Sx.seq ?_
  refine Sx.reg ?_
  refine Sx.sv (r_lt rfl rfl) rfl (wnt0 rfl) ?_
  refine wnil ?_
  refine Sx.nT ?_
  refine Sx.seq ?_
  by_cases hlt : k < x.g.length
  · refine Sx.ct rfl (decide_eq_true (by omega)) ?_
    obtain ⟨b, off, hA, -, hb, hg3⟩ := (HX.old E).ok.r1.t3 hlt
    have m1 : Me _ b (off + k * 3) _ := ⟨hb, hg3.seg⟩
    have hgo := hok.g k hlt
    obtain ⟨ho1, ho2, ho3, ho4, ho5, ho6⟩ := hgo
    refine wp_skip ?_
    refine Sx.nT ?_
    refine Sx.seq ?_
    refine Sx.blk ?_
    refine Sx.seq ?_
    refine Sx.reg ?_
    refine Sx.sv (r_ixi ix27 rfl (by first | rfl | assumption) rfl (by first | rfl | assumption) (by omega)) rfl (wnt0 rfl) ?_
    refine Sx.sv (r_ldr ty43 rfl (m1.seg) rfl) rfl (wnt0 rfl) ?_
    refine Sx.sy (y_all zi43 rfl) rfl (wnt0 rfl) ?_
    rintro _ w5 ⟨b5, rfl, n5, x5⟩
    have l5_x1 : b1 < b5 := Nat.lt_of_lt_of_le x1.lt n5.ge
    have l5_m1 : b < b5 := Nat.lt_of_lt_of_le m1.lt n5.ge
    have g5 : w.heap.size ≤ b5 := Nat.le_trans E.size n5.ge
    replace x1 := x1.nw n5.r
    replace m1 := m1.nw n5.r
    replace E := E.then n5.r (fun _ _ h => h.elim)
    refine Sx.syu (u_stR ty43 rfl rfl rfl x5 rfl rfl) rfl (wnt0 rfl) ?_
    rintro w6 ⟨r6, z6, x6n⟩
    replace x1 := x1.ch r6 (by omega)
    replace m1 := m1.ch r6 (by omega)
    replace E := E.then r6 (fun x hx (e : x = b5) => show w.heap.size ≤ x by omega)
    replace x5 := x6n; clear x6n
    refine wnil ?_
    refine Sx.nT ?_
    refine Sx.seq ?_
    refine Sx.reg ?_
    refine Sx.sv (r_fa fo43_0 rfl) rfl (wnt0 rfl) ?_
    refine Sx.sv (r_ld ty3 rfl (x5.seg) rfl) rfl (wnt0 rfl) ?_
    refine Sx.sv (r_fa fo31_0 rfl) rfl (wnt0 rfl) ?_
    refine Sx.sv (r_ld ty3 rfl (x1.seg) rfl) rfl (wnt0 rfl) ?_
    refine Sx.sv (r_sub rfl rfl (by omega) (by omega)) rfl (wnt0 rfl) ?_
    refine Sx.sc (r_call en32 rfl) rfl (wnt0 rfl) (in_yes _ _ _ _ (by omega) (by omega)) ?_
    rintro e w7 ⟨rfl, rfl⟩
    refine ⟨_, rfl, ?_⟩
    refine Sx.sv (r_not rfl) rfl (wnt0 rfl) ?_
    refine Sx.sv (r_mv rfl) rfl (wnt0 rfl) ?_
    refine Sx.sv (r_fa fo43_1 rfl) rfl (wnt1 (dj := 51) (b0 := false) rfl rfl rfl rfl (rfl) rfl) ?_
    refine Sx.sv (r_ld ty3 rfl (x5.seg) rfl) rfl (wnt1 (dj := 51) (b0 := false) rfl rfl rfl rfl (rfl) rfl) ?_
    refine Sx.sv (r_fa fo31_1 rfl) rfl (wnt1 (dj := 51) (b0 := false) rfl rfl rfl rfl (rfl) rfl) ?_
    refine Sx.sv (r_ld ty3 rfl (x1.seg) rfl) rfl (wnt1 (dj := 51) (b0 := false) rfl rfl rfl rfl (rfl) rfl) ?_
    refine Sx.sv (r_sub rfl rfl (by omega) (by omega)) rfl (wnt1 (dj := 51) (b0 := false) rfl rfl rfl rfl (rfl) rfl) ?_
    refine Sx.sc (r_call en32 rfl) rfl (wnt1 (dj := 51) (b0 := false) rfl rfl rfl rfl (rfl) rfl) (in_yes _ _ _ _ (by omega) (by omega)) ?_
    rintro e w8 ⟨rfl, rfl⟩
    refine ⟨_, rfl, ?_⟩
    refine Sx.sv (r_not rfl) rfl (wnt1 (dj := 51) (b0 := false) rfl rfl rfl rfl (rfl) rfl) ?_
    refine Sx.sv (r_pkF rfl (rfl) rfl) rfl (wnt0 rfl) ?_
    refine Sx.sv (r_mv rfl) rfl (wnt0 rfl) ?_
    refine Sx.sv (r_fa fo43_2 rfl) rfl (wnt1 (dj := 60) (b0 := false) rfl rfl rfl rfl (rfl) rfl) ?_
    refine Sx.sv (r_ld ty3 rfl (x5.seg) rfl) rfl (wnt1 (dj := 60) (b0 := false) rfl rfl rfl rfl (rfl) rfl) ?_
    refine Sx.sc (r_call en32 rfl) rfl (wnt1 (dj := 60) (b0 := false) rfl rfl rfl rfl (rfl) rfl) (in_yes _ _ _ _ (by omega) (by omega)) ?_
    rintro e w9 ⟨rfl, rfl⟩
    refine ⟨_, rfl, ?_⟩
    refine Sx.sv (r_not rfl) rfl (wnt1 (dj := 60) (b0 := false) rfl rfl rfl rfl (rfl) rfl) ?_
    refine Sx.sv (r_pkF rfl (rfl) rfl) rfl (wnt0 rfl) ?_
    refine wnil ?_
    refine Sx.nT ?_
    refine Sx.cf rfl (rfl) ?_
    refine wp_skip ?_
    refine Sx.nB ?_
    refine Sx.nT ?_
    refine Sx.reg ?_
    refine Sx.sv (r_add rfl rfl (by omega) (by omega)) rfl (wnt0 rfl) ?_
    refine Sx.sv (r_mv rfl) rfl (wnt0 rfl) ?_
    refine wnil ?_
    refine Sx.nT ?_
    exact Sx.lpe (k + 1) ⟨rfl, rfl, rfl, rfl, trivial⟩ ⟨hlt, x1, E⟩ (show _ - (k + 1) < _ - k by omega)
  · skip
    refine Sx.cf rfl (decide_eq_false (by omega)) ?_
    refine wp_exit ?_
    refine Sx.eT ?_
    refine Sx.eT ?_
    refine Sx.eB ?_
    refine Sx.nT ?_
    refine Sx.seq ?_
    refine Sx.seq ?_
    refine Sx.reg ?_
    refine Sx.sv (r_fa fo31_3 rfl) rfl (wnt0 rfl) ?_
    refine Sx.sv (r_ld ty28 rfl (x1.seg) rfl) rfl (wnt0 rfl) ?_
    refine Sx.sv (r_ln Try.underlying28 rfl) rfl (wnt0 rfl) ?_
    refine Sx.sv (r_mv rfl) rfl (wnt0 rfl) ?_
    refine wnil ?_
    refine Sx.nT ?_
    refine Sx.blk ?_
    refine Sx.lp (Nat) (fun k => [(70, .int .i64 (k : Int)), (68, .slice v.A2 x.s.length v.c2), (69, .int .i64 (x.s.length : Int)), (1, .pointer (some ⟨b1, 0, none⟩))]) (fun k wr => k ≤ x.s.length ∧ Bx wr b1 [.int .i64 x.c, .int .i64 x.k, .slice v.A1 x.g.length v.c1, .slice v.A2 x.s.length v.c2, .slice v.A3 x.m.length v.c3] 31 ∧ Rel (fun x => w.heap.size ≤ x) w wr) (fun k => x.s.length - k) 0 ⟨rfl, rfl, rfl, rfl, trivial⟩ ⟨Nat.zero_le _, x1, E⟩ ?_
    rintro k fr w10 ⟨hk, x1, E⟩
    show Code.wp _ _ _ (Fa fr [(70, .int .i64 (k : Int)), (68, .slice v.A2 x.s.length v.c2), (69, .int .i64 (x.s.length : Int)), (1, .pointer (some ⟨b1, 0, none⟩))]) _
    refine Sx.seq ?_
    refine Sx.reg ?_
    refine Sx.sv (r_lt rfl rfl) rfl (wnt0 rfl) ?_
    refine wnil ?_
    refine Sx.nT ?_
    refine Sx.seq ?_
    by_cases hlt : k < x.s.length
    · refine Sx.ct rfl (decide_eq_true (by omega)) ?_
      obtain ⟨b, off, hA, -, hb, hg3⟩ := (HX.old E).ok.r2.t2 hlt
      have m1 : Me _ b (off + k * 2) _ := ⟨hb, hg3.seg⟩
      have hgo := hok.s k hlt
      obtain ⟨ho1, ho2, ho3, ho4⟩ := hgo
      refine wp_skip ?_
      refine Sx.nT ?_
      refine Sx.seq ?_
      refine Sx.blk ?_
      refine Sx.seq ?_
      refine Sx.reg ?_
      refine Sx.sv (r_ixi ix28 rfl (by first | rfl | assumption) rfl (by first | rfl | assumption) (by omega)) rfl (wnt0 rfl) ?_
      refine Sx.sv (r_ldr ty45 rfl (m1.seg) rfl) rfl (wnt0 rfl) ?_
      refine Sx.sy (y_all zi45 rfl) rfl (wnt0 rfl) ?_
      rintro _ w11 ⟨b11, rfl, n11, x11⟩
      have l11_x1 : b1 < b11 := Nat.lt_of_lt_of_le x1.lt n11.ge
      have l11_m1 : b < b11 := Nat.lt_of_lt_of_le m1.lt n11.ge
      have g11 : w.heap.size ≤ b11 := Nat.le_trans E.size n11.ge
      replace x1 := x1.nw n11.r
      replace m1 := m1.nw n11.r
      replace E := E.then n11.r (fun _ _ h => h.elim)
      refine Sx.syu (u_stR ty45 rfl rfl rfl x11 rfl rfl) rfl (wnt0 rfl) ?_
      rintro w12 ⟨r12, z12, x12n⟩
      replace x1 := x1.ch r12 (by omega)
      replace m1 := m1.ch r12 (by omega)
      replace E := E.then r12 (fun x hx (e : x = b11) => show w.heap.size ≤ x by omega)
      replace x11 := x12n; clear x12n
      refine wnil ?_
      refine Sx.nT ?_
      refine Sx.seq ?_
      refine Sx.reg ?_
      refine Sx.sv (r_fa fo45_0 rfl) rfl (wnt0 rfl) ?_
      refine Sx.sv (r_ld ty3 rfl (x11.seg) rfl) rfl (wnt0 rfl) ?_
      refine Sx.sv (r_fa fo31_1 rfl) rfl (wnt0 rfl) ?_
      refine Sx.sv (r_ld ty3 rfl (x1.seg) rfl) rfl (wnt0 rfl) ?_
      refine Sx.sv (r_sub rfl rfl (by omega) (by omega)) rfl (wnt0 rfl) ?_
      refine Sx.sc (r_call en32 rfl) rfl (wnt0 rfl) (in_yes _ _ _ _ (by omega) (by omega)) ?_
      rintro e w13 ⟨rfl, rfl⟩
      refine ⟨_, rfl, ?_⟩
      refine Sx.sv (r_not rfl) rfl (wnt0 rfl) ?_
      refine Sx.sv (r_mv rfl) rfl (wnt0 rfl) ?_
      refine Sx.sv (r_fa fo45_1 rfl) rfl (wnt1 (dj := 81) (b0 := false) rfl rfl rfl rfl (rfl) rfl) ?_
      refine Sx.sv (r_ld ty3 rfl (x11.seg) rfl) rfl (wnt1 (dj := 81) (b0 := false) rfl rfl rfl rfl (rfl) rfl) ?_
      refine Sx.sv (r_fa fo31_0 rfl) rfl (wnt1 (dj := 81) (b0 := false) rfl rfl rfl rfl (rfl) rfl) ?_
      refine Sx.sv (r_ld ty3 rfl (x1.seg) rfl) rfl (wnt1 (dj := 81) (b0 := false) rfl rfl rfl rfl (rfl) rfl) ?_
      refine Sx.sv (r_sub rfl rfl (by omega) (by omega)) rfl (wnt1 (dj := 81) (b0 := false) rfl rfl rfl rfl (rfl) rfl) ?_
      refine Sx.sc (r_call en32 rfl) rfl (wnt1 (dj := 81) (b0 := false) rfl rfl rfl rfl (rfl) rfl) (in_yes _ _ _ _ (by omega) (by omega)) ?_
      rintro e w14 ⟨rfl, rfl⟩
      refine ⟨_, rfl, ?_⟩
      refine Sx.sv (r_not rfl) rfl (wnt1 (dj := 81) (b0 := false) rfl rfl rfl rfl (rfl) rfl) ?_
      refine Sx.sv (r_pkF rfl (rfl) rfl) rfl (wnt0 rfl) ?_
      refine wnil ?_
      refine Sx.nT ?_
      refine Sx.cf rfl (rfl) ?_
      refine wp_skip ?_
      refine Sx.nB ?_
      refine Sx.nT ?_
      refine Sx.reg ?_
      refine Sx.sv (r_add rfl rfl (by omega) (by omega)) rfl (wnt0 rfl) ?_
      refine Sx.sv (r_mv rfl) rfl (wnt0 rfl) ?_
      refine wnil ?_
      refine Sx.nT ?_
      exact Sx.lpe (k + 1) ⟨rfl, rfl, rfl, rfl, trivial⟩ ⟨hlt, x1, E⟩ (show _ - (k + 1) < _ - k by omega)
    · skip
      refine Sx.cf rfl (decide_eq_false (by omega)) ?_
      refine wp_exit ?_
      refine Sx.eT ?_
      refine Sx.eT ?_
      refine Sx.eB ?_
      refine Sx.nT ?_
      refine Sx.seq ?_
      refine Sx.seq ?_
      refine Sx.reg ?_
      refine Sx.sv (r_fa fo31_4 rfl) rfl (wnt0 rfl) ?_
      refine Sx.sv (r_ld ty29 rfl (x1.seg) rfl) rfl (wnt0 rfl) ?_
      refine Sx.sv (r_ln Try.underlying29 rfl) rfl (wnt0 rfl) ?_
      refine Sx.sv (r_mv rfl) rfl (wnt0 rfl) ?_
      refine wnil ?_
      refine Sx.nT ?_
      refine Sx.blk ?_
      refine Sx.lp (Nat) (fun k => [(94, .int .i64 (k : Int)), (92, .slice v.A3 x.m.length v.c3), (93, .int .i64 (x.m.length : Int)), (1, .pointer (some ⟨b1, 0, none⟩))]) (fun k wr => k ≤ x.m.length ∧ Bx wr b1 [.int .i64 x.c, .int .i64 x.k, .slice v.A1 x.g.length v.c1, .slice v.A2 x.s.length v.c2, .slice v.A3 x.m.length v.c3] 31 ∧ Rel (fun x => w.heap.size ≤ x) w wr) (fun k => x.m.length - k) 0 ⟨rfl, rfl, rfl, rfl, trivial⟩ ⟨Nat.zero_le _, x1, E⟩ ?_
      rintro k fr w15 ⟨hk, x1, E⟩
      show Code.wp _ _ _ (Fa fr [(94, .int .i64 (k : Int)), (92, .slice v.A3 x.m.length v.c3), (93, .int .i64 (x.m.length : Int)), (1, .pointer (some ⟨b1, 0, none⟩))]) _
      refine Sx.seq ?_
      refine Sx.reg ?_
      refine Sx.sv (r_lt rfl rfl) rfl (wnt0 rfl) ?_
      refine wnil ?_
      refine Sx.nT ?_
      refine Sx.seq ?_
      by_cases hlt : k < x.m.length
      · refine Sx.ct rfl (decide_eq_true (by omega)) ?_
        obtain ⟨b, off, hA, -, hb, hg3⟩ := (HX.old E).ok.r3.t2 hlt
        have m1 : Me _ b (off + k * 2) _ := ⟨hb, hg3.seg⟩
        have hgo := hok.m k hlt
        obtain ⟨ho1, ho2, ho3, ho4⟩ := hgo
        refine wp_skip ?_
        refine Sx.nT ?_
        refine Sx.seq ?_
        refine Sx.blk ?_
        refine Sx.seq ?_
        refine Sx.reg ?_
        refine Sx.sv (r_ixi ix29 rfl (by first | rfl | assumption) rfl (by first | rfl | assumption) (by omega)) rfl (wnt0 rfl) ?_
        refine Sx.sv (r_ldr ty47 rfl (m1.seg) rfl) rfl (wnt0 rfl) ?_
        refine Sx.sy (y_all zi47 rfl) rfl (wnt0 rfl) ?_
        rintro _ w16 ⟨b16, rfl, n16, x16⟩
        have l16_x1 : b1 < b16 := Nat.lt_of_lt_of_le x1.lt n16.ge
        have l16_m1 : b < b16 := Nat.lt_of_lt_of_le m1.lt n16.ge
        have g16 : w.heap.size ≤ b16 := Nat.le_trans E.size n16.ge
        replace x1 := x1.nw n16.r
        replace m1 := m1.nw n16.r
        replace E := E.then n16.r (fun _ _ h => h.elim)
        refine Sx.syu (u_stR ty47 rfl rfl rfl x16 rfl rfl) rfl (wnt0 rfl) ?_
        rintro w17 ⟨r17, z17, x17n⟩
        replace x1 := x1.ch r17 (by omega)
        replace m1 := m1.ch r17 (by omega)
        replace E := E.then r17 (fun x hx (e : x = b16) => show w.heap.size ≤ x by omega)
        replace x16 := x17n; clear x17n
        refine wnil ?_
        refine Sx.nT ?_
        refine Sx.seq ?_
        refine Sx.reg ?_
        refine Sx.sv (r_fa fo47_0 rfl) rfl (wnt0 rfl) ?_
        refine Sx.sv (r_ld ty3 rfl (x16.seg) rfl) rfl (wnt0 rfl) ?_
        refine Sx.sv (r_fa fo31_0 rfl) rfl (wnt0 rfl) ?_
        refine Sx.sv (r_ld ty3 rfl (x1.seg) rfl) rfl (wnt0 rfl) ?_
        refine Sx.sv (r_sub rfl rfl (by omega) (by omega)) rfl (wnt0 rfl) ?_
        refine Sx.sc (r_call en32 rfl) rfl (wnt0 rfl) (in_yes _ _ _ _ (by omega) (by omega)) ?_
        rintro e w18 ⟨rfl, rfl⟩
        refine ⟨_, rfl, ?_⟩
        refine Sx.sv (r_not rfl) rfl (wnt0 rfl) ?_
        refine Sx.sv (r_mv rfl) rfl (wnt0 rfl) ?_
        refine Sx.sv (r_fa fo47_1 rfl) rfl (wnt1 (dj := 105) (b0 := false) rfl rfl rfl rfl (rfl) rfl) ?_
        refine Sx.sv (r_ld ty3 rfl (x16.seg) rfl) rfl (wnt1 (dj := 105) (b0 := false) rfl rfl rfl rfl (rfl) rfl) ?_
        refine Sx.sv (r_fa fo31_0 rfl) rfl (wnt1 (dj := 105) (b0 := false) rfl rfl rfl rfl (rfl) rfl) ?_
        refine Sx.sv (r_ld ty3 rfl (x1.seg) rfl) rfl (wnt1 (dj := 105) (b0 := false) rfl rfl rfl rfl (rfl) rfl) ?_
        refine Sx.sv (r_sub rfl rfl (by omega) (by omega)) rfl (wnt1 (dj := 105) (b0 := false) rfl rfl rfl rfl (rfl) rfl) ?_
        refine Sx.sc (r_call en32 rfl) rfl (wnt1 (dj := 105) (b0 := false) rfl rfl rfl rfl (rfl) rfl) (in_yes _ _ _ _ (by omega) (by omega)) ?_
        rintro e w19 ⟨rfl, rfl⟩
        refine ⟨_, rfl, ?_⟩
        refine Sx.sv (r_not rfl) rfl (wnt1 (dj := 105) (b0 := false) rfl rfl rfl rfl (rfl) rfl) ?_
        refine Sx.sv (r_pkF rfl (rfl) rfl) rfl (wnt0 rfl) ?_
        refine wnil ?_
        refine Sx.nT ?_
        refine Sx.cf rfl (rfl) ?_
        refine wp_skip ?_
        refine Sx.nB ?_
        refine Sx.nT ?_
        refine Sx.reg ?_
        refine Sx.sv (r_add rfl rfl (by omega) (by omega)) rfl (wnt0 rfl) ?_
        refine Sx.sv (r_mv rfl) rfl (wnt0 rfl) ?_
        refine wnil ?_
        refine Sx.nT ?_
        exact Sx.lpe (k + 1) ⟨rfl, rfl, rfl, rfl, trivial⟩ ⟨hlt, x1, E⟩ (show _ - (k + 1) < _ - k by omega)
      · skip
        refine Sx.cf rfl (decide_eq_false (by omega)) ?_
        refine wp_exit ?_
        refine Sx.eT ?_
        refine Sx.eT ?_
        refine Sx.eB ?_
        refine Sx.nT ?_
        refine Sx.seq ?_
        refine Sx.reg ?_
        refine Sx.sv (r_as rfl) rfl (wnt0 rfl) ?_
        refine wnil ?_
        refine Sx.nT ?_
        refine wp_ret ?_
        exact Sx.ret1 Try.results31 rfl ⟨rfl, E.toB0⟩
set_option maxRecDepth 100000 in
set_option maxHeartbeats 4000000 in
theorem rproves_any (x : Rt) (v : Vr) (c r rt : Int) (l : List T4) (j : Nat) (A : Option Addr) (cc : Nat) (w : World) (h : RL w 0 x v) (hok : Rok x) (hc : 0 ≤ c ∧ c < x.c) (hr : 0 ≤ r ∧ r < x.k) (hrt : 1 ≤ rt ∧ rt ≤ 3)
    (hl : Row w 0 4 A (l.length + 1) (v4 (l ++ [lkG j]))) (hll : l.length ≤ 1000) (hj : j < x.g.length) (hp : Pth x c l (e3 x.g j).a) (hb : (e3 x.g j).b = r) :
    Calls Try.prog 20 #[.agg (gr x v), .int .i64 c, .int .i64 r, .int .i64 rt, .slice A (l.length + 1) cc] w fun e w' => e = .returned (.bool (decide (rt ≤ (e3 x.g j).c))) ∧ Below w.heap.size w w' := by
  have HX := Has.rl h
  have hc0 := hok.c0
  have hk0 := hok.k0
  have hlg := hok.lg
  have hls := hok.ls
  have hlm := hok.lm
  have hkc := hok.c1
  have hkk := hok.k1
  have HL := Has.row hl
  have E : Rel (fun x => w.heap.size ≤ x) w w := Rel.refl _ _
  refine Sx.enter Try.func20 rfl Try.ntmps20 rfl (fun fr => ?_)
  refine Sx.seq ?_
  refine Sx.reg ?_
  refine Sx.sy (y_box rfl rfl) rfl (wnt0 rfl) ?_
  rintro _ w1 ⟨b1, rfl, n1, x1⟩
  have g1 : w.heap.size ≤ b1 := Nat.le_trans E.size n1.ge
  replace E := E.then n1.r (fun _ _ h => h.elim)
  refine Sx.sv (r_as rfl) rfl (wnt0 rfl) ?_
  refine wnil ?_
  refine Sx.nT ?_
  refine Sx.seq ?_
  refine Sx.seq ?_
  refine Sx.reg ?_
  refine Sx.sv (r_ldr ty31 rfl (x1.seg) rfl) rfl (wnt0 rfl) ?_
  refine Sx.sc (r_call en31 rfl) rfl (wnt0 rfl) (rvalid_yes x v _ (HX.old E).ok hok) ?_
  rintro e w2 ⟨rfl, hb2⟩
  refine ⟨_, rfl, ?_⟩
  have r2 := Rel.of0 hb2
  replace x1 := x1.nw r2
  replace E := E.then r2 (fun _ _ h => h.elim)
  refine Sx.sv (r_not rfl) rfl (wnt0 rfl) ?_
  refine Sx.sv (r_mv rfl) rfl (wnt0 rfl) ?_
  refine Sx.sv (r_mv rfl) rfl (wnt1 (dj := 18) (b0 := false) rfl rfl rfl rfl (rfl) rfl) ?_
  refine Sx.sv (r_fa fo31_0 rfl) rfl (wnt1 (dj := 18) (b0 := false) rfl rfl rfl rfl (rfl) rfl) ?_
  refine Sx.sv (r_ld ty3 rfl (x1.seg) rfl) rfl (wnt1 (dj := 18) (b0 := false) rfl rfl rfl rfl (rfl) rfl) ?_
  refine Sx.sv (r_sub rfl rfl (by omega) (by omega)) rfl (wnt1 (dj := 18) (b0 := false) rfl rfl rfl rfl (rfl) rfl) ?_
  refine Sx.sc (r_call en32 rfl) rfl (wnt1 (dj := 18) (b0 := false) rfl rfl rfl rfl (rfl) rfl) (in_yes _ _ _ _ (by omega) (by omega)) ?_
  rintro e w3 ⟨rfl, rfl⟩
  refine ⟨_, rfl, ?_⟩
  refine Sx.sv (r_not rfl) rfl (wnt1 (dj := 18) (b0 := false) rfl rfl rfl rfl (rfl) rfl) ?_
  refine Sx.sv (r_pkF rfl (rfl) rfl) rfl (wnt0 rfl) ?_
  refine Sx.sv (r_mv rfl) rfl (wnt0 rfl) ?_
  refine Sx.sv (r_mv rfl) rfl (wnt1 (dj := 26) (b0 := false) rfl rfl rfl rfl (rfl) rfl) ?_
  refine Sx.sv (r_fa fo31_1 rfl) rfl (wnt1 (dj := 26) (b0 := false) rfl rfl rfl rfl (rfl) rfl) ?_
  refine Sx.sv (r_ld ty3 rfl (x1.seg) rfl) rfl (wnt1 (dj := 26) (b0 := false) rfl rfl rfl rfl (rfl) rfl) ?_
  refine Sx.sv (r_sub rfl rfl (by omega) (by omega)) rfl (wnt1 (dj := 26) (b0 := false) rfl rfl rfl rfl (rfl) rfl) ?_
  refine Sx.sc (r_call en32 rfl) rfl (wnt1 (dj := 26) (b0 := false) rfl rfl rfl rfl (rfl) rfl) (in_yes _ _ _ _ (by omega) (by omega)) ?_
  rintro e w4 ⟨rfl, rfl⟩
  refine ⟨_, rfl, ?_⟩
  refine Sx.sv (r_not rfl) rfl (wnt1 (dj := 26) (b0 := false) rfl rfl rfl rfl (rfl) rfl) ?_
  refine Sx.sv (r_pkF rfl (rfl) rfl) rfl (wnt0 rfl) ?_
  refine Sx.sv (r_mv rfl) rfl (wnt0 rfl) ?_
  refine Sx.sv (r_mv rfl) rfl (wnt1 (dj := 34) (b0 := false) rfl rfl rfl rfl (rfl) rfl) ?_
  refine Sx.sc (r_call en32 rfl) rfl (wnt1 (dj := 34) (b0 := false) rfl rfl rfl rfl (rfl) rfl) (in_yes _ _ _ _ (by omega) (by omega)) ?_
  rintro e w5 ⟨rfl, rfl⟩
  refine ⟨_, rfl, ?_⟩
  refine Sx.sv (r_not rfl) rfl (wnt1 (dj := 34) (b0 := false) rfl rfl rfl rfl (rfl) rfl) ?_
  refine Sx.sv (r_pkF rfl (rfl) rfl) rfl (wnt0 rfl) ?_
  refine Sx.sv (r_mv rfl) rfl (wnt0 rfl) ?_
  refine Sx.sv (r_mv rfl) rfl (wnt1 (dj := 39) (b0 := false) rfl rfl rfl rfl (rfl) rfl) ?_
  refine Sx.sv (r_ln Try.underlying48 rfl) rfl (wnt1 (dj := 39) (b0 := false) rfl rfl rfl rfl (rfl) rfl) ?_
  refine Sx.sv (r_eq rfl rfl) rfl (wnt1 (dj := 39) (b0 := false) rfl rfl rfl rfl (rfl) rfl) ?_
  refine Sx.sv (r_pkF rfl (rfl) rfl) rfl (wnt0 rfl) ?_
  refine wnil ?_
  refine Sx.nT ?_
  refine Sx.cf rfl (decide_eq_false (by omega)) ?_
  refine wp_skip ?_
  refine Sx.nT ?_
  refine Sx.seq ?_
  refine Sx.seq ?_
  refine Sx.reg ?_
  refine Sx.sv (r_mv rfl) rfl (wnt0 rfl) ?_
  refine Sx.sv (r_ln Try.underlying48 rfl) rfl (wnt0 rfl) ?_
  refine Sx.sv (r_mv rfl) rfl (wnt0 rfl) ?_
  refine wnil ?_
  refine Sx.nT ?_
  refine Sx.blk ?_
  refine Sx.lp (Nat × Int) (fun ⟨k, y⟩ => [(46, .int .i64 (k : Int)), (44, .slice A (l.length + 1) cc), (45, .int .i64 ((l.length + 1 : Nat) : Int)), (1, .int .i64 y), (5, .pointer (some ⟨b1, 0, none⟩)), (4, .slice A (l.length + 1) cc), (2, .int .i64 r), (3, .int .i64 rt)]) (fun ⟨k, y⟩ wr => k ≤ l.length ∧ Pth x c (l.take k) y ∧ Bx wr b1 [.int .i64 x.c, .int .i64 x.k, .slice v.A1 x.g.length v.c1, .slice v.A2 x.s.length v.c2, .slice v.A3 x.m.length v.c3] 31 ∧ Rel (fun x => w.heap.size ≤ x) w wr) (fun ⟨k, y⟩ => l.length - k) ⟨0, c⟩ ⟨rfl, rfl, rfl, rfl, rfl, rfl, rfl, rfl, trivial⟩ ⟨Nat.zero_le _, .nil, x1, E⟩ ?_
  rintro ⟨k, y⟩ fr w6 ⟨hk, hpt, x1, E⟩
  show Code.wp _ _ _ (Fa fr [(46, .int .i64 (k : Int)), (44, .slice A (l.length + 1) cc), (45, .int .i64 ((l.length + 1 : Nat) : Int)), (1, .int .i64 y), (5, .pointer (some ⟨b1, 0, none⟩)), (4, .slice A (l.length + 1) cc), (2, .int .i64 r), (3, .int .i64 rt)]) _
  refine Sx.seq ?_
  refine Sx.reg ?_
  refine Sx.sv (r_lt rfl rfl) rfl (wnt0 rfl) ?_
  refine wnil ?_
  refine Sx.nT ?_
  refine Sx.seq ?_
  refine Sx.ct rfl (decide_eq_true (by omega)) ?_
  by_cases hlt : k < l.length
  · obtain ⟨y2, e, hp2, hst, hel, hp3⟩ := hp.take k hlt
    obtain rfl : y = y2 := Pth.det hpt hp2
    obtain ⟨b, off, hA, -, hb1, hc4⟩ := (HL.old E).ok.t4 (show k < l.length + 1 by omega)
    rw [e4_left hlt, ← hel] at hc4
    rcases hst with ⟨n, hn, ha, rfl⟩ | ⟨i, n, hi, hn, ha, hbb, rfl⟩
    · have m1 : Me _ b (off + k * 4) [.int .i64 2, .int .i64 (-1), .int .i64 (-1), .int .i64 (n : Int)] := ⟨hb1, hc4.seg⟩
      obtain ⟨b', off', hA', -, hb', hg3'⟩ := (HX.old E).ok.r3.t2 hn
      have m2 : Me _ b' (off' + n * 2) _ := ⟨hb', hg3'.seg⟩
      refine wp_skip ?_
      refine Sx.nT ?_
      refine Sx.seq ?_
      refine Sx.blk ?_
      refine Sx.seq ?_
      refine Sx.reg ?_
      refine Sx.sv (r_mv rfl) rfl (wnt0 rfl) ?_
      refine Sx.sv (r_ixi ix48 rfl (by first | rfl | assumption) rfl (by first | rfl | assumption) (by omega)) rfl (wnt0 rfl) ?_
      refine Sx.sv (r_ldr ty61 rfl (m1.seg) rfl) rfl (wnt0 rfl) ?_
      refine Sx.sy (y_all zi61 rfl) rfl (wnt0 rfl) ?_
      rintro _ w7 ⟨b7, rfl, n7, x7⟩
      have l7_x1 : b1 < b7 := Nat.lt_of_lt_of_le x1.lt n7.ge
      have l7_m1 : b < b7 := Nat.lt_of_lt_of_le m1.lt n7.ge
      have l7_m2 : b' < b7 := Nat.lt_of_lt_of_le m2.lt n7.ge
      have g7 : w.heap.size ≤ b7 := Nat.le_trans E.size n7.ge
      replace x1 := x1.nw n7.r
      replace m1 := m1.nw n7.r
      replace m2 := m2.nw n7.r
      replace E := E.then n7.r (fun _ _ h => h.elim)
      refine Sx.sv (r_as rfl) rfl (wnt0 rfl) ?_
      refine Sx.syu (u_stR ty61 rfl rfl rfl x7 rfl rfl) rfl (wnt0 rfl) ?_
      rintro w8 ⟨r8, z8, x8n⟩
      replace x1 := x1.ch r8 (by omega)
      replace m1 := m1.ch r8 (by omega)
      replace m2 := m2.ch r8 (by omega)
      replace E := E.then r8 (fun x hx (e : x = b7) => show w.heap.size ≤ x by omega)
      replace x7 := x8n; clear x8n
      refine wnil ?_
      refine Sx.nT ?_
      refine Sx.seq ?_
      refine Sx.reg ?_
      refine Sx.sv (r_mv rfl) rfl (wnt0 rfl) ?_
      refine Sx.sv (r_mv rfl) rfl (wnt0 rfl) ?_
      refine Sx.sv (r_ln Try.underlying48 rfl) rfl (wnt0 rfl) ?_
      refine Sx.sv (r_sub rfl rfl (by omega) (by omega)) rfl (wnt0 rfl) ?_
      refine Sx.sv (r_eq rfl rfl) rfl (wnt0 rfl) ?_
      refine Sx.sv (r_as rfl) rfl (wnt0 rfl) ?_
      refine wnil ?_
      refine Sx.nT ?_
      refine Sx.seq ?_
      refine Sx.reg ?_
      refine Sx.sv (r_fa fo61_0 rfl) rfl (wnt0 rfl) ?_
      refine Sx.sv (r_ld ty3 rfl (x7.seg) rfl) rfl (wnt0 rfl) ?_
      refine wnil ?_
      refine Sx.nT ?_
      refine Sx.blk ?_
      refine Sx.seq ?_
      refine Sx.reg ?_
      refine Sx.sv (r_eq rfl rfl) rfl (wnt0 rfl) ?_
      refine Sx.sv (r_as rfl) rfl (wnt0 rfl) ?_
      refine wnil ?_
      refine Sx.nT ?_
      refine Sx.ct rfl (decide_eq_true rfl) ?_
      refine Sx.seq ?_
      refine Sx.seq ?_
      refine Sx.reg ?_
      refine Sx.sv (r_mv rfl) rfl (wnt0 rfl) ?_
      refine Sx.sv (r_mv rfl) rfl (wnt0 rfl) ?_
      refine Sx.sv (r_fa fo61_1 rfl) rfl (wnt1 (dj := 61) (b0 := false) rfl rfl rfl rfl (decide_eq_false (by omega)) rfl) ?_
      refine Sx.sv (r_ld ty3 rfl (x7.seg) rfl) rfl (wnt1 (dj := 61) (b0 := false) rfl rfl rfl rfl (decide_eq_false (by omega)) rfl) ?_
      refine Sx.sv (r_ne rfl rfl) rfl (wnt1 (dj := 61) (b0 := false) rfl rfl rfl rfl (decide_eq_false (by omega)) rfl) ?_
      refine Sx.sv (r_pkF rfl (decide_eq_false (by omega)) rfl) rfl (wnt0 rfl) ?_
      refine Sx.sv (r_mv rfl) rfl (wnt0 rfl) ?_
      refine Sx.sv (r_fa fo61_2 rfl) rfl (wnt1 (dj := 66) (b0 := false) rfl rfl rfl rfl (decide_eq_false (by decide)) rfl) ?_
      refine Sx.sv (r_ld ty3 rfl (x7.seg) rfl) rfl (wnt1 (dj := 66) (b0 := false) rfl rfl rfl rfl (decide_eq_false (by decide)) rfl) ?_
      refine Sx.sv (r_ne rfl rfl) rfl (wnt1 (dj := 66) (b0 := false) rfl rfl rfl rfl (decide_eq_false (by decide)) rfl) ?_
      refine Sx.sv (r_pkF rfl (decide_eq_false (by decide)) rfl) rfl (wnt0 rfl) ?_
      refine Sx.sv (r_mv rfl) rfl (wnt0 rfl) ?_
      refine Sx.sv (r_fa fo61_3 rfl) rfl (wnt1 (dj := 71) (b0 := false) rfl rfl rfl rfl (decide_eq_false (by decide)) rfl) ?_
      refine Sx.sv (r_ld ty3 rfl (x7.seg) rfl) rfl (wnt1 (dj := 71) (b0 := false) rfl rfl rfl rfl (decide_eq_false (by decide)) rfl) ?_
      refine Sx.sv (r_fa fo31_4 rfl) rfl (wnt1 (dj := 71) (b0 := false) rfl rfl rfl rfl (decide_eq_false (by decide)) rfl) ?_
      refine Sx.sv (r_ld ty29 rfl (x1.seg) rfl) rfl (wnt1 (dj := 71) (b0 := false) rfl rfl rfl rfl (decide_eq_false (by decide)) rfl) ?_
      refine Sx.sv (r_ln Try.underlying29 rfl) rfl (wnt1 (dj := 71) (b0 := false) rfl rfl rfl rfl (decide_eq_false (by decide)) rfl) ?_
      refine Sx.sv (r_sub rfl rfl (by omega) (by omega)) rfl (wnt1 (dj := 71) (b0 := false) rfl rfl rfl rfl (decide_eq_false (by decide)) rfl) ?_
      refine Sx.sc (r_call en32 rfl) rfl (wnt1 (dj := 71) (b0 := false) rfl rfl rfl rfl (decide_eq_false (by decide)) rfl) (in_yes _ _ _ _ (by omega) (by omega)) ?_
      rintro e w9 ⟨rfl, rfl⟩
      refine ⟨_, rfl, ?_⟩
      refine Sx.sv (r_not rfl) rfl (wnt1 (dj := 71) (b0 := false) rfl rfl rfl rfl (decide_eq_false (by decide)) rfl) ?_
      refine Sx.sv (r_pkF rfl (decide_eq_false (by decide)) rfl) rfl (wnt0 rfl) ?_
      refine Sx.sv (r_mv rfl) rfl (wnt0 rfl) ?_
      refine Sx.sv (r_fa fo31_4 rfl) rfl (wnt1 (dj := 81) (b0 := false) rfl rfl rfl rfl (rfl) rfl) ?_
      refine Sx.sv (r_ld ty29 rfl (x1.seg) rfl) rfl (wnt1 (dj := 81) (b0 := false) rfl rfl rfl rfl (rfl) rfl) ?_
      refine Sx.sv (r_fa fo61_3 rfl) rfl (wnt1 (dj := 81) (b0 := false) rfl rfl rfl rfl (rfl) rfl) ?_
      refine Sx.sv (r_ld ty3 rfl (x7.seg) rfl) rfl (wnt1 (dj := 81) (b0 := false) rfl rfl rfl rfl (rfl) rfl) ?_
      refine Sx.sv (r_ixi ix29 rfl (by first | rfl | assumption) rfl (by first | rfl | assumption) (by omega)) rfl (wnt1 (dj := 81) (b0 := false) rfl rfl rfl rfl (rfl) rfl) ?_
      refine Sx.sv (r_fa fo47_0 rfl) rfl (wnt1 (dj := 81) (b0 := false) rfl rfl rfl rfl (rfl) rfl) ?_
      refine Sx.sv (r_ld ty3 rfl (m2.seg) rfl) rfl (wnt1 (dj := 81) (b0 := false) rfl rfl rfl rfl (rfl) rfl) ?_
      refine Sx.sv (r_mv rfl) rfl (wnt1 (dj := 81) (b0 := false) rfl rfl rfl rfl (rfl) rfl) ?_
      refine Sx.sv (r_ne rfl rfl) rfl (wnt1 (dj := 81) (b0 := false) rfl rfl rfl rfl (rfl) rfl) ?_
      refine Sx.sv (r_pkF rfl (rfl) rfl) rfl (wnt0 rfl) ?_
      refine wnil ?_
      refine Sx.nT ?_
      refine Sx.cf rfl (decide_eq_false (fun h => h ha)) ?_
      refine wp_skip ?_
      refine Sx.nT ?_
      refine Sx.reg ?_
      refine Sx.sv (r_fa fo31_4 rfl) rfl (wnt0 rfl) ?_
      refine Sx.sv (r_ld ty29 rfl (x1.seg) rfl) rfl (wnt0 rfl) ?_
      refine Sx.sv (r_fa fo61_3 rfl) rfl (wnt0 rfl) ?_
      refine Sx.sv (r_ld ty3 rfl (x7.seg) rfl) rfl (wnt0 rfl) ?_
      refine Sx.sv (r_ixi ix29 rfl (by first | rfl | assumption) rfl (by first | rfl | assumption) (by omega)) rfl (wnt0 rfl) ?_
      refine Sx.sv (r_fa fo47_1 rfl) rfl (wnt0 rfl) ?_
      refine Sx.sv (r_ld ty3 rfl (m2.seg) rfl) rfl (wnt0 rfl) ?_
      refine Sx.sv (r_as rfl) rfl (wnt0 rfl) ?_
      refine wnil ?_
      refine Sx.nB ?_
      refine Sx.nB ?_
      refine Sx.nT ?_
      refine Sx.reg ?_
      refine Sx.sv (r_add rfl rfl (by omega) (by omega)) rfl (wnt0 rfl) ?_
      refine Sx.sv (r_mv rfl) rfl (wnt0 rfl) ?_
      refine wnil ?_
      refine Sx.nT ?_
      exact Sx.lpe (⟨k + 1, (e2 x.m n).b⟩) ⟨rfl, rfl, rfl, rfl, rfl, rfl, rfl, rfl, trivial⟩ ⟨hlt, hp3, x1, E⟩ (show _ - (k + 1) < _ - k by omega)
    · have m1 : Me _ b (off + k * 4) [.int .i64 1, .int .i64 (i : Int), .int .i64 (n : Int), .int .i64 (-1)] := ⟨hb1, hc4.seg⟩
      obtain ⟨b', off', hA', -, hb', hg3'⟩ := (HX.old E).ok.r2.t2 hn
      have m2 : Me _ b' (off' + n * 2) _ := ⟨hb', hg3'.seg⟩
      obtain ⟨b5, off5, hA5, -, hb5, hg5⟩ := (HX.old E).ok.r1.t3 hi
      have m3 : Me _ b5 (off5 + i * 3) _ := ⟨hb5, hg5.seg⟩
      refine wp_skip ?_
      refine Sx.nT ?_
      refine Sx.seq ?_
      refine Sx.blk ?_
      refine Sx.seq ?_
      refine Sx.reg ?_
      refine Sx.sv (r_mv rfl) rfl (wnt0 rfl) ?_
      refine Sx.sv (r_ixi ix48 rfl (by first | rfl | assumption) rfl (by first | rfl | assumption) (by omega)) rfl (wnt0 rfl) ?_
      refine Sx.sv (r_ldr ty61 rfl (m1.seg) rfl) rfl (wnt0 rfl) ?_
      refine Sx.sy (y_all zi61 rfl) rfl (wnt0 rfl) ?_
      rintro _ w10 ⟨b10, rfl, n10, x10⟩
      have l10_x1 : b1 < b10 := Nat.lt_of_lt_of_le x1.lt n10.ge
      have l10_m1 : b < b10 := Nat.lt_of_lt_of_le m1.lt n10.ge
      have l10_m2 : b' < b10 := Nat.lt_of_lt_of_le m2.lt n10.ge
      have l10_m3 : b5 < b10 := Nat.lt_of_lt_of_le m3.lt n10.ge
      have g10 : w.heap.size ≤ b10 := Nat.le_trans E.size n10.ge
      replace x1 := x1.nw n10.r
      replace m1 := m1.nw n10.r
      replace m2 := m2.nw n10.r
      replace m3 := m3.nw n10.r
      replace E := E.then n10.r (fun _ _ h => h.elim)
      refine Sx.sv (r_as rfl) rfl (wnt0 rfl) ?_
      refine Sx.syu (u_stR ty61 rfl rfl rfl x10 rfl rfl) rfl (wnt0 rfl) ?_
      rintro w11 ⟨r11, z11, x11n⟩
      replace x1 := x1.ch r11 (by omega)
      replace m1 := m1.ch r11 (by omega)
      replace m2 := m2.ch r11 (by omega)
      replace m3 := m3.ch r11 (by omega)
      replace E := E.then r11 (fun x hx (e : x = b10) => show w.heap.size ≤ x by omega)
      replace x10 := x11n; clear x11n
      refine wnil ?_
      refine Sx.nT ?_
      refine Sx.seq ?_
      refine Sx.reg ?_
      refine Sx.sv (r_mv rfl) rfl (wnt0 rfl) ?_
      refine Sx.sv (r_mv rfl) rfl (wnt0 rfl) ?_
      refine Sx.sv (r_ln Try.underlying48 rfl) rfl (wnt0 rfl) ?_
      refine Sx.sv (r_sub rfl rfl (by omega) (by omega)) rfl (wnt0 rfl) ?_
      refine Sx.sv (r_eq rfl rfl) rfl (wnt0 rfl) ?_
      refine Sx.sv (r_as rfl) rfl (wnt0 rfl) ?_
      refine wnil ?_
      refine Sx.nT ?_
      refine Sx.seq ?_
      refine Sx.reg ?_
      refine Sx.sv (r_fa fo61_0 rfl) rfl (wnt0 rfl) ?_
      refine Sx.sv (r_ld ty3 rfl (x10.seg) rfl) rfl (wnt0 rfl) ?_
      refine wnil ?_
      refine Sx.nT ?_
      refine Sx.blk ?_
      refine Sx.seq ?_
      refine Sx.reg ?_
      refine Sx.sv (r_eq rfl rfl) rfl (wnt0 rfl) ?_
      refine Sx.sv (r_as rfl) rfl (wnt0 rfl) ?_
      refine wnil ?_
      refine Sx.nT ?_
      refine Sx.cf rfl (decide_eq_false (by decide)) ?_
      refine Sx.seq ?_
      refine Sx.reg ?_
      refine Sx.sv (r_eq rfl rfl) rfl (wnt0 rfl) ?_
      refine Sx.sv (r_as rfl) rfl (wnt0 rfl) ?_
      refine wnil ?_
      refine Sx.nT ?_
      refine Sx.ct rfl (decide_eq_true rfl) ?_
      refine Sx.seq ?_
      refine Sx.seq ?_
      refine Sx.drg 54 (fun w12 wv => Rel (fun x => False) w12 wv) mx (fun w12 hd => ?_)
      replace x1 := x1.nw hd
      replace m1 := m1.nw hd
      replace m2 := m2.nw hd
      replace m3 := m3.nw hd
      replace x10 := x10.nw hd
      replace E := E.then hd (fun _ _ h => h.elim)
      have q_x1 := x1.lt
      have q_m1 := m1.lt
      have q_m2 := m2.lt
      have q_m3 := m3.lt
      have q_x10 := x10.lt
      have d_x1 := x1
      have d_m1 := m1
      have d_m2 := m2
      have d_m3 := m3
      have d_x10 := x10
      have hS : Rel (fun x => False) w12 w12 := Rel.refl _ _
      refine Sx.dt (i := 0) rfl (by kernel_rfl) (by kernel_rfl) (by kernel_rfl) (by kernel_rfl) (fun _ _ _ _ h => h) rfl (wnt0 rfl) (fun wv h2 => r_mv rfl) hS ?_
      refine Sx.dt (i := 1) rfl (by kernel_rfl) (by kernel_rfl) (by kernel_rfl) (by kernel_rfl) (fun _ _ _ _ h => h) rfl (wnt0 rfl) (fun wv h2 => r_mv rfl) hS ?_
      refine Sx.dt (i := 2) rfl (by kernel_rfl) (by kernel_rfl) (by kernel_rfl) (by kernel_rfl) (fun _ _ _ _ h => h) rfl (wnt1 (dj := 102) (b0 := false) rfl rfl rfl rfl (decide_eq_false (by omega)) rfl) (fun wv h2 => r_fa fo61_3 rfl) hS ?_
      refine Sx.dt (i := 3) rfl (by kernel_rfl) (by kernel_rfl) (by kernel_rfl) (by kernel_rfl) (fun _ _ _ _ h => h) rfl (wnt1 (dj := 102) (b0 := false) rfl rfl rfl rfl (decide_eq_false (by omega)) rfl) (fun wv h2 => r_ld ty3 rfl ((d_x10.rel h2 (show ¬ (False) from id)).seg) rfl) hS ?_
      refine Sx.dt (i := 4) rfl (by kernel_rfl) (by kernel_rfl) (by kernel_rfl) (by kernel_rfl) (fun _ _ _ _ h => h) rfl (wnt1 (dj := 102) (b0 := false) rfl rfl rfl rfl (decide_eq_false (by omega)) rfl) (fun wv h2 => r_ne rfl rfl) hS ?_
      refine Sx.dt (i := 5) rfl (by kernel_rfl) (by kernel_rfl) (by kernel_rfl) (by kernel_rfl) (fun _ _ _ _ h => h) rfl (wnt0 rfl) (fun wv h2 => r_pkF rfl (decide_eq_false (by omega)) rfl) hS ?_
      refine Sx.dt (i := 6) rfl (by kernel_rfl) (by kernel_rfl) (by kernel_rfl) (by kernel_rfl) (fun _ _ _ _ h => h) rfl (wnt0 rfl) (fun wv h2 => r_mv rfl) hS ?_
      refine Sx.dt (i := 7) rfl (by kernel_rfl) (by kernel_rfl) (by kernel_rfl) (by kernel_rfl) (fun _ _ _ _ h => h) rfl (wnt1 (dj := 107) (b0 := false) rfl rfl rfl rfl (decide_eq_false (by decide)) rfl) (fun wv h2 => r_fa fo61_1 rfl) hS ?_
      refine Sx.dt (i := 9) rfl (by kernel_rfl) (by kernel_rfl) (by kernel_rfl) (by kernel_rfl) (fun _ _ _ _ h => h) rfl (wnt1 (dj := 107) (b0 := false) rfl rfl rfl rfl (decide_eq_false (by decide)) rfl) (fun wv h2 => r_fa fo31_2 rfl) hS ?_
      refine Sx.dt (i := 8) rfl (by kernel_rfl) (by kernel_rfl) (by kernel_rfl) (by kernel_rfl) (fun _ _ _ _ h => h) rfl (wnt1 (dj := 107) (b0 := false) rfl rfl rfl rfl (decide_eq_false (by decide)) rfl) (fun wv h2 => r_ld ty3 rfl ((d_x10.rel h2 (show ¬ (False) from id)).seg) rfl) hS ?_
      refine Sx.dt (i := 10) rfl (by kernel_rfl) (by kernel_rfl) (by kernel_rfl) (by kernel_rfl) (fun _ _ _ _ h => h) rfl (wnt1 (dj := 107) (b0 := false) rfl rfl rfl rfl (decide_eq_false (by decide)) rfl) (fun wv h2 => r_ld ty27 rfl ((d_x1.rel h2 (show ¬ (False) from id)).seg) rfl) hS ?_
      refine Sx.dt (i := 11) rfl (by kernel_rfl) (by kernel_rfl) (by kernel_rfl) (by kernel_rfl) (fun _ _ _ _ h => h) rfl (wnt1 (dj := 107) (b0 := false) rfl rfl rfl rfl (decide_eq_false (by decide)) rfl) (fun wv h2 => r_ln Try.underlying27 rfl) hS ?_
      refine Sx.dt (i := 12) rfl (by kernel_rfl) (by kernel_rfl) (by kernel_rfl) (by kernel_rfl) (fun _ _ _ _ h => h) rfl (wnt1 (dj := 107) (b0 := false) rfl rfl rfl rfl (decide_eq_false (by decide)) rfl) (fun wv h2 => r_sub rfl rfl (by omega) (by omega)) hS ?_
      refine Sx.da1 (i := 13) (by kernel_rfl) ?_
      refine Sx.wc rfl (wnt1 (dj := 107) (b0 := false) rfl rfl rfl rfl (decide_eq_false (by decide)) rfl) rfl (r_call en32 rfl) (in_yes _ _ _ _ (by omega) (by omega)) ?_
      rintro e _ ⟨rfl, rfl⟩
      refine ⟨_, rfl, .inr hS, ?_⟩
      refine Sx.dt (i := 14) rfl (by kernel_rfl) (by kernel_rfl) (by kernel_rfl) (by kernel_rfl) (fun _ _ _ _ h => h) rfl (wnt1 (dj := 107) (b0 := false) rfl rfl rfl rfl (decide_eq_false (by decide)) rfl) (fun wv h2 => r_not rfl) hS ?_
      refine Sx.dt (i := 15) rfl (by kernel_rfl) (by kernel_rfl) (by kernel_rfl) (by kernel_rfl) (fun _ _ _ _ h => h) rfl (wnt0 rfl) (fun wv h2 => r_pkF rfl (decide_eq_false (by decide)) rfl) hS ?_
      refine Sx.dt (i := 16) rfl (by kernel_rfl) (by kernel_rfl) (by kernel_rfl) (by kernel_rfl) (fun _ _ _ _ h => h) rfl (wnt0 rfl) (fun wv h2 => r_mv rfl) hS ?_
      refine Sx.dt (i := 17) rfl (by kernel_rfl) (by kernel_rfl) (by kernel_rfl) (by kernel_rfl) (fun _ _ _ _ h => h) rfl (wnt1 (dj := 117) (b0 := false) rfl rfl rfl rfl (rfl) rfl) (fun wv h2 => r_fa fo61_2 rfl) hS ?_
      refine Sx.dt (i := 19) rfl (by kernel_rfl) (by kernel_rfl) (by kernel_rfl) (by kernel_rfl) (fun _ _ _ _ h => h) rfl (wnt1 (dj := 117) (b0 := false) rfl rfl rfl rfl (rfl) rfl) (fun wv h2 => r_fa fo31_3 rfl) hS ?_
      refine Sx.dt (i := 18) rfl (by kernel_rfl) (by kernel_rfl) (by kernel_rfl) (by kernel_rfl) (fun _ _ _ _ h => h) rfl (wnt1 (dj := 117) (b0 := false) rfl rfl rfl rfl (rfl) rfl) (fun wv h2 => r_ld ty3 rfl ((d_x10.rel h2 (show ¬ (False) from id)).seg) rfl) hS ?_
      refine Sx.dt (i := 20) rfl (by kernel_rfl) (by kernel_rfl) (by kernel_rfl) (by kernel_rfl) (fun _ _ _ _ h => h) rfl (wnt1 (dj := 117) (b0 := false) rfl rfl rfl rfl (rfl) rfl) (fun wv h2 => r_ld ty28 rfl ((d_x1.rel h2 (show ¬ (False) from id)).seg) rfl) hS ?_
      refine Sx.dt (i := 21) rfl (by kernel_rfl) (by kernel_rfl) (by kernel_rfl) (by kernel_rfl) (fun _ _ _ _ h => h) rfl (wnt1 (dj := 117) (b0 := false) rfl rfl rfl rfl (rfl) rfl) (fun wv h2 => r_ln Try.underlying28 rfl) hS ?_
      refine Sx.dt (i := 22) rfl (by kernel_rfl) (by kernel_rfl) (by kernel_rfl) (by kernel_rfl) (fun _ _ _ _ h => h) rfl (wnt1 (dj := 117) (b0 := false) rfl rfl rfl rfl (rfl) rfl) (fun wv h2 => r_sub rfl rfl (by omega) (by omega)) hS ?_
      refine Sx.da1 (i := 23) (by kernel_rfl) ?_
      refine Sx.wc rfl (wnt1 (dj := 117) (b0 := false) rfl rfl rfl rfl (rfl) rfl) rfl (r_call en32 rfl) (in_yes _ _ _ _ (by omega) (by omega)) ?_
      rintro e _ ⟨rfl, rfl⟩
      refine ⟨_, rfl, .inr hS, ?_⟩
      refine Sx.dt (i := 24) rfl (by kernel_rfl) (by kernel_rfl) (by kernel_rfl) (by kernel_rfl) (fun _ _ _ _ h => h) rfl (wnt1 (dj := 117) (b0 := false) rfl rfl rfl rfl (rfl) rfl) (fun wv h2 => r_not rfl) hS ?_
      refine Sx.dt (i := 25) rfl (by kernel_rfl) (by kernel_rfl) (by kernel_rfl) (by kernel_rfl) (fun _ _ _ _ h => h) rfl (wnt0 rfl) (fun wv h2 => r_pkF rfl (rfl) rfl) hS ?_
      refine Sx.dt (i := 26) rfl (by kernel_rfl) (by kernel_rfl) (by kernel_rfl) (by kernel_rfl) (fun _ _ _ _ h => h) rfl (wnt0 rfl) (fun wv h2 => r_mv rfl) hS ?_
      refine Sx.dt (i := 27) rfl (by kernel_rfl) (by kernel_rfl) (by kernel_rfl) (by kernel_rfl) (fun _ _ _ _ h => h) rfl (wnt1 (dj := 127) (b0 := false) rfl rfl rfl rfl (rfl) rfl) (fun wv h2 => r_fa fo31_2 rfl) hS ?_
      refine Sx.dt (i := 29) rfl (by kernel_rfl) (by kernel_rfl) (by kernel_rfl) (by kernel_rfl) (fun _ _ _ _ h => h) rfl (wnt1 (dj := 127) (b0 := false) rfl rfl rfl rfl (rfl) rfl) (fun wv h2 => r_fa fo61_1 rfl) hS ?_
      refine Sx.dt (i := 34) rfl (by kernel_rfl) (by kernel_rfl) (by kernel_rfl) (by kernel_rfl) (fun _ _ _ _ h => h) rfl (wnt1 (dj := 127) (b0 := false) rfl rfl rfl rfl (rfl) rfl) (fun wv h2 => r_mv rfl) hS ?_
      refine Sx.dt (i := 28) rfl (by kernel_rfl) (by kernel_rfl) (by kernel_rfl) (by kernel_rfl) (fun _ _ _ _ h => h) rfl (wnt1 (dj := 127) (b0 := false) rfl rfl rfl rfl (rfl) rfl) (fun wv h2 => r_ld ty27 rfl ((d_x1.rel h2 (show ¬ (False) from id)).seg) rfl) hS ?_
      refine Sx.dt (i := 30) rfl (by kernel_rfl) (by kernel_rfl) (by kernel_rfl) (by kernel_rfl) (fun _ _ _ _ h => h) rfl (wnt1 (dj := 127) (b0 := false) rfl rfl rfl rfl (rfl) rfl) (fun wv h2 => r_ld ty3 rfl ((d_x10.rel h2 (show ¬ (False) from id)).seg) rfl) hS ?_
      refine Sx.dt (i := 31) rfl (by kernel_rfl) (by kernel_rfl) (by kernel_rfl) (by kernel_rfl) (fun _ _ _ _ h => h) rfl (wnt1 (dj := 127) (b0 := false) rfl rfl rfl rfl (rfl) rfl) (fun wv h2 => r_ixi ix27 rfl (by first | rfl | assumption) rfl (by first | rfl | assumption) (by omega)) hS ?_
      refine Sx.dt (i := 32) rfl (by kernel_rfl) (by kernel_rfl) (by kernel_rfl) (by kernel_rfl) (fun _ _ _ _ h => h) rfl (wnt1 (dj := 127) (b0 := false) rfl rfl rfl rfl (rfl) rfl) (fun wv h2 => r_fa fo43_0 rfl) hS ?_
      refine Sx.dt (i := 33) rfl (by kernel_rfl) (by kernel_rfl) (by kernel_rfl) (by kernel_rfl) (fun _ _ _ _ h => h) rfl (wnt1 (dj := 127) (b0 := false) rfl rfl rfl rfl (rfl) rfl) (fun wv h2 => r_ld ty3 rfl ((d_m3.rel h2 (show ¬ (False) from id)).seg) rfl) hS ?_
      refine Sx.dt (i := 35) rfl (by kernel_rfl) (by kernel_rfl) (by kernel_rfl) (by kernel_rfl) (fun _ _ _ _ h => h) rfl (wnt1 (dj := 127) (b0 := false) rfl rfl rfl rfl (rfl) rfl) (fun wv h2 => r_ne rfl rfl) hS ?_
      refine Sx.dt (i := 36) rfl (by kernel_rfl) (by kernel_rfl) (by kernel_rfl) (by kernel_rfl) (fun _ _ _ _ h => h) rfl (wnt0 rfl) (fun wv h2 => r_pkF rfl (rfl) rfl) hS ?_
      refine Sx.dt (i := 37) rfl (by kernel_rfl) (by kernel_rfl) (by kernel_rfl) (by kernel_rfl) (fun _ _ _ _ h => h) rfl (wnt0 rfl) (fun wv h2 => r_mv rfl) hS ?_
      refine Sx.dt (i := 38) rfl (by kernel_rfl) (by kernel_rfl) (by kernel_rfl) (by kernel_rfl) (fun _ _ _ _ h => h) rfl (wnt1 (dj := 138) (b0 := false) rfl rfl rfl rfl (decide_eq_false (fun h => h ha)) rfl) (fun wv h2 => r_fa fo31_2 rfl) hS ?_
      refine Sx.dt (i := 40) rfl (by kernel_rfl) (by kernel_rfl) (by kernel_rfl) (by kernel_rfl) (fun _ _ _ _ h => h) rfl (wnt1 (dj := 138) (b0 := false) rfl rfl rfl rfl (decide_eq_false (fun h => h ha)) rfl) (fun wv h2 => r_fa fo61_1 rfl) hS ?_
      refine Sx.dt (i := 45) rfl (by kernel_rfl) (by kernel_rfl) (by kernel_rfl) (by kernel_rfl) (fun _ _ _ _ h => h) rfl (wnt1 (dj := 138) (b0 := false) rfl rfl rfl rfl (decide_eq_false (fun h => h ha)) rfl) (fun wv h2 => r_fa fo31_3 rfl) hS ?_
      refine Sx.dt (i := 47) rfl (by kernel_rfl) (by kernel_rfl) (by kernel_rfl) (by kernel_rfl) (fun _ _ _ _ h => h) rfl (wnt1 (dj := 138) (b0 := false) rfl rfl rfl rfl (decide_eq_false (fun h => h ha)) rfl) (fun wv h2 => r_fa fo61_2 rfl) hS ?_
      refine Sx.dt (i := 39) rfl (by kernel_rfl) (by kernel_rfl) (by kernel_rfl) (by kernel_rfl) (fun _ _ _ _ h => h) rfl (wnt1 (dj := 138) (b0 := false) rfl rfl rfl rfl (decide_eq_false (fun h => h ha)) rfl) (fun wv h2 => r_ld ty27 rfl ((d_x1.rel h2 (show ¬ (False) from id)).seg) rfl) hS ?_
      refine Sx.dt (i := 41) rfl (by kernel_rfl) (by kernel_rfl) (by kernel_rfl) (by kernel_rfl) (fun _ _ _ _ h => h) rfl (wnt1 (dj := 138) (b0 := false) rfl rfl rfl rfl (decide_eq_false (fun h => h ha)) rfl) (fun wv h2 => r_ld ty3 rfl ((d_x10.rel h2 (show ¬ (False) from id)).seg) rfl) hS ?_
      refine Sx.dt (i := 46) rfl (by kernel_rfl) (by kernel_rfl) (by kernel_rfl) (by kernel_rfl) (fun _ _ _ _ h => h) rfl (wnt1 (dj := 138) (b0 := false) rfl rfl rfl rfl (decide_eq_false (fun h => h ha)) rfl) (fun wv h2 => r_ld ty28 rfl ((d_x1.rel h2 (show ¬ (False) from id)).seg) rfl) hS ?_
      refine Sx.dt (i := 48) rfl (by kernel_rfl) (by kernel_rfl) (by kernel_rfl) (by kernel_rfl) (fun _ _ _ _ h => h) rfl (wnt1 (dj := 138) (b0 := false) rfl rfl rfl rfl (decide_eq_false (fun h => h ha)) rfl) (fun wv h2 => r_ld ty3 rfl ((d_x10.rel h2 (show ¬ (False) from id)).seg) rfl) hS ?_
      refine Sx.dt (i := 42) rfl (by kernel_rfl) (by kernel_rfl) (by kernel_rfl) (by kernel_rfl) (fun _ _ _ _ h => h) rfl (wnt1 (dj := 138) (b0 := false) rfl rfl rfl rfl (decide_eq_false (fun h => h ha)) rfl) (fun wv h2 => r_ixi ix27 rfl (by first | rfl | assumption) rfl (by first | rfl | assumption) (by omega)) hS ?_
      refine Sx.dt (i := 49) rfl (by kernel_rfl) (by kernel_rfl) (by kernel_rfl) (by kernel_rfl) (fun _ _ _ _ h => h) rfl (wnt1 (dj := 138) (b0 := false) rfl rfl rfl rfl (decide_eq_false (fun h => h ha)) rfl) (fun wv h2 => r_ixi ix28 rfl (by first | rfl | assumption) rfl (by first | rfl | assumption) (by omega)) hS ?_
      refine Sx.dt (i := 43) rfl (by kernel_rfl) (by kernel_rfl) (by kernel_rfl) (by kernel_rfl) (fun _ _ _ _ h => h) rfl (wnt1 (dj := 138) (b0 := false) rfl rfl rfl rfl (decide_eq_false (fun h => h ha)) rfl) (fun wv h2 => r_fa fo43_1 rfl) hS ?_
      refine Sx.dt (i := 50) rfl (by kernel_rfl) (by kernel_rfl) (by kernel_rfl) (by kernel_rfl) (fun _ _ _ _ h => h) rfl (wnt1 (dj := 138) (b0 := false) rfl rfl rfl rfl (decide_eq_false (fun h => h ha)) rfl) (fun wv h2 => r_fa fo45_0 rfl) hS ?_
      refine Sx.dt (i := 44) rfl (by kernel_rfl) (by kernel_rfl) (by kernel_rfl) (by kernel_rfl) (fun _ _ _ _ h => h) rfl (wnt1 (dj := 138) (b0 := false) rfl rfl rfl rfl (decide_eq_false (fun h => h ha)) rfl) (fun wv h2 => r_ld ty3 rfl ((d_m3.rel h2 (show ¬ (False) from id)).seg) rfl) hS ?_
      refine Sx.dt (i := 51) rfl (by kernel_rfl) (by kernel_rfl) (by kernel_rfl) (by kernel_rfl) (fun _ _ _ _ h => h) rfl (wnt1 (dj := 138) (b0 := false) rfl rfl rfl rfl (decide_eq_false (fun h => h ha)) rfl) (fun wv h2 => r_ld ty3 rfl ((d_m2.rel h2 (show ¬ (False) from id)).seg) rfl) hS ?_
      refine Sx.dt (i := 52) rfl (by kernel_rfl) (by kernel_rfl) (by kernel_rfl) (by kernel_rfl) (fun _ _ _ _ h => h) rfl (wnt1 (dj := 138) (b0 := false) rfl rfl rfl rfl (decide_eq_false (fun h => h ha)) rfl) (fun wv h2 => r_ne rfl rfl) hS ?_
      refine Sx.dt (i := 53) rfl (by kernel_rfl) (by kernel_rfl) (by kernel_rfl) (by kernel_rfl) (fun _ _ _ _ h => h) rfl (wnt0 rfl) (fun wv h2 => r_pkF rfl (decide_eq_false (fun h => h ha)) rfl) hS ?_
      refine Sx.dz (by kernel_rfl) ?_
      clear hS d_x1 d_m1 d_m2 d_m3 d_x10
      refine Sx.nT ?_
      refine Sx.cf rfl (decide_eq_false (fun h => h hbb)) ?_
      refine wp_skip ?_
      refine Sx.nT ?_
      refine Sx.reg ?_
      refine Sx.sv (r_fa fo31_3 rfl) rfl (wnt0 rfl) ?_
      refine Sx.sv (r_ld ty28 rfl (x1.seg) rfl) rfl (wnt0 rfl) ?_
      refine Sx.sv (r_fa fo61_2 rfl) rfl (wnt0 rfl) ?_
      refine Sx.sv (r_ld ty3 rfl (x10.seg) rfl) rfl (wnt0 rfl) ?_
      refine Sx.sv (r_ixi ix28 rfl (by first | rfl | assumption) rfl (by first | rfl | assumption) (by omega)) rfl (wnt0 rfl) ?_
      refine Sx.sv (r_fa fo45_1 rfl) rfl (wnt0 rfl) ?_
      refine Sx.sv (r_ld ty3 rfl (m2.seg) rfl) rfl (wnt0 rfl) ?_
      refine Sx.sv (r_as rfl) rfl (wnt0 rfl) ?_
      refine wnil ?_
      refine Sx.nB ?_
      refine Sx.nB ?_
      refine Sx.nT ?_
      refine Sx.reg ?_
      refine Sx.sv (r_add rfl rfl (by omega) (by omega)) rfl (wnt0 rfl) ?_
      refine Sx.sv (r_mv rfl) rfl (wnt0 rfl) ?_
      refine wnil ?_
      refine Sx.nT ?_
      exact Sx.lpe (⟨k + 1, (e2 x.s n).b⟩) ⟨rfl, rfl, rfl, rfl, rfl, rfl, rfl, rfl, trivial⟩ ⟨hlt, hp3, x1, E⟩ (show _ - (k + 1) < _ - k by omega)
  · obtain rfl : k = l.length := by omega
    rw [List.take_length] at hpt
    obtain rfl : y = (e3 x.g j).a := Pth.det hpt hp
    obtain ⟨b, off, hA, -, hb1, hc4⟩ := (HL.old E).ok.t4 (show l.length < l.length + 1 by omega)
    rw [e4_end] at hc4
    have m1 : Me _ b (off + l.length * 4) [.int .i64 3, .int .i64 (j : Int), .int .i64 (-1), .int .i64 (-1)] := ⟨hb1, hc4.seg⟩
    obtain ⟨b', off', hA', -, hb', hg3'⟩ := (HX.old E).ok.r1.t3 hj
    have m2 : Me _ b' (off' + j * 3) _ := ⟨hb', hg3'.seg⟩
    refine wp_skip ?_
    refine Sx.nT ?_
    refine Sx.seq ?_
    refine Sx.blk ?_
    refine Sx.seq ?_
    refine Sx.reg ?_
    refine Sx.sv (r_mv rfl) rfl (wnt0 rfl) ?_
    refine Sx.sv (r_ixi ix48 rfl (by first | rfl | assumption) rfl (by first | rfl | assumption) (by omega)) rfl (wnt0 rfl) ?_
    refine Sx.sv (r_ldr ty61 rfl (m1.seg) rfl) rfl (wnt0 rfl) ?_
    refine Sx.sy (y_all zi61 rfl) rfl (wnt0 rfl) ?_
    rintro _ w13 ⟨b13, rfl, n13, x13⟩
    have l13_x1 : b1 < b13 := Nat.lt_of_lt_of_le x1.lt n13.ge
    have l13_m1 : b < b13 := Nat.lt_of_lt_of_le m1.lt n13.ge
    have l13_m2 : b' < b13 := Nat.lt_of_lt_of_le m2.lt n13.ge
    have g13 : w.heap.size ≤ b13 := Nat.le_trans E.size n13.ge
    replace x1 := x1.nw n13.r
    replace m1 := m1.nw n13.r
    replace m2 := m2.nw n13.r
    replace E := E.then n13.r (fun _ _ h => h.elim)
    refine Sx.sv (r_as rfl) rfl (wnt0 rfl) ?_
    refine Sx.syu (u_stR ty61 rfl rfl rfl x13 rfl rfl) rfl (wnt0 rfl) ?_
    rintro w14 ⟨r14, z14, x14n⟩
    replace x1 := x1.ch r14 (by omega)
    replace m1 := m1.ch r14 (by omega)
    replace m2 := m2.ch r14 (by omega)
    replace E := E.then r14 (fun x hx (e : x = b13) => show w.heap.size ≤ x by omega)
    replace x13 := x14n; clear x14n
    refine wnil ?_
    refine Sx.nT ?_
    refine Sx.seq ?_
    refine Sx.reg ?_
    refine Sx.sv (r_mv rfl) rfl (wnt0 rfl) ?_
    refine Sx.sv (r_mv rfl) rfl (wnt0 rfl) ?_
    refine Sx.sv (r_ln Try.underlying48 rfl) rfl (wnt0 rfl) ?_
    refine Sx.sv (r_sub rfl rfl (by omega) (by omega)) rfl (wnt0 rfl) ?_
    refine Sx.sv (r_eq rfl rfl) rfl (wnt0 rfl) ?_
    refine Sx.sv (r_as rfl) rfl (wnt0 rfl) ?_
    refine wnil ?_
    refine Sx.nT ?_
    refine Sx.seq ?_
    refine Sx.reg ?_
    refine Sx.sv (r_fa fo61_0 rfl) rfl (wnt0 rfl) ?_
    refine Sx.sv (r_ld ty3 rfl (x13.seg) rfl) rfl (wnt0 rfl) ?_
    refine wnil ?_
    refine Sx.nT ?_
    refine Sx.blk ?_
    refine Sx.seq ?_
    refine Sx.reg ?_
    refine Sx.sv (r_eq rfl rfl) rfl (wnt0 rfl) ?_
    refine Sx.sv (r_as rfl) rfl (wnt0 rfl) ?_
    refine wnil ?_
    refine Sx.nT ?_
    refine Sx.cf rfl (decide_eq_false (by decide)) ?_
    refine Sx.seq ?_
    refine Sx.reg ?_
    refine Sx.sv (r_eq rfl rfl) rfl (wnt0 rfl) ?_
    refine Sx.sv (r_as rfl) rfl (wnt0 rfl) ?_
    refine wnil ?_
    refine Sx.nT ?_
    refine Sx.cf rfl (decide_eq_false (by decide)) ?_
    refine Sx.seq ?_
    refine Sx.reg ?_
    refine Sx.sv (r_eq rfl rfl) rfl (wnt0 rfl) ?_
    refine Sx.sv (r_as rfl) rfl (wnt0 rfl) ?_
    refine wnil ?_
    refine Sx.nT ?_
    refine Sx.ct rfl (decide_eq_true rfl) ?_
    refine Sx.seq ?_
    refine Sx.seq ?_
    refine Sx.reg ?_
    refine Sx.sv (r_mv rfl) rfl (wnt0 rfl) ?_
    refine Sx.sv (r_not rfl) rfl (wnt0 rfl) ?_
    refine Sx.sv (r_mv rfl) rfl (wnt0 rfl) ?_
    refine Sx.sv (r_fa fo61_3 rfl) rfl (wnt1 (dj := 166) (b0 := false) rfl rfl rfl rfl (congrArg (fun z => !z) (decide_eq_true (by omega))) rfl) ?_
    refine Sx.sv (r_ld ty3 rfl (x13.seg) rfl) rfl (wnt1 (dj := 166) (b0 := false) rfl rfl rfl rfl (congrArg (fun z => !z) (decide_eq_true (by omega))) rfl) ?_
    refine Sx.sv (r_ne rfl rfl) rfl (wnt1 (dj := 166) (b0 := false) rfl rfl rfl rfl (congrArg (fun z => !z) (decide_eq_true (by omega))) rfl) ?_
    refine Sx.sv (r_pkF rfl (congrArg (fun z => !z) (decide_eq_true (by omega))) rfl) rfl (wnt0 rfl) ?_
    refine Sx.sv (r_mv rfl) rfl (wnt0 rfl) ?_
    refine Sx.sv (r_fa fo61_2 rfl) rfl (wnt1 (dj := 171) (b0 := false) rfl rfl rfl rfl (decide_eq_false (by decide)) rfl) ?_
    refine Sx.sv (r_ld ty3 rfl (x13.seg) rfl) rfl (wnt1 (dj := 171) (b0 := false) rfl rfl rfl rfl (decide_eq_false (by decide)) rfl) ?_
    refine Sx.sv (r_ne rfl rfl) rfl (wnt1 (dj := 171) (b0 := false) rfl rfl rfl rfl (decide_eq_false (by decide)) rfl) ?_
    refine Sx.sv (r_pkF rfl (decide_eq_false (by decide)) rfl) rfl (wnt0 rfl) ?_
    refine Sx.sv (r_mv rfl) rfl (wnt0 rfl) ?_
    refine Sx.sv (r_fa fo61_1 rfl) rfl (wnt1 (dj := 176) (b0 := false) rfl rfl rfl rfl (decide_eq_false (by decide)) rfl) ?_
    refine Sx.sv (r_ld ty3 rfl (x13.seg) rfl) rfl (wnt1 (dj := 176) (b0 := false) rfl rfl rfl rfl (decide_eq_false (by decide)) rfl) ?_
    refine Sx.sv (r_fa fo31_2 rfl) rfl (wnt1 (dj := 176) (b0 := false) rfl rfl rfl rfl (decide_eq_false (by decide)) rfl) ?_
    refine Sx.sv (r_ld ty27 rfl (x1.seg) rfl) rfl (wnt1 (dj := 176) (b0 := false) rfl rfl rfl rfl (decide_eq_false (by decide)) rfl) ?_
    refine Sx.sv (r_ln Try.underlying27 rfl) rfl (wnt1 (dj := 176) (b0 := false) rfl rfl rfl rfl (decide_eq_false (by decide)) rfl) ?_
    refine Sx.sv (r_sub rfl rfl (by omega) (by omega)) rfl (wnt1 (dj := 176) (b0 := false) rfl rfl rfl rfl (decide_eq_false (by decide)) rfl) ?_
    refine Sx.sc (r_call en32 rfl) rfl (wnt1 (dj := 176) (b0 := false) rfl rfl rfl rfl (decide_eq_false (by decide)) rfl) (in_yes _ _ _ _ (by omega) (by omega)) ?_
    rintro e w15 ⟨rfl, rfl⟩
    refine ⟨_, rfl, ?_⟩
    refine Sx.sv (r_not rfl) rfl (wnt1 (dj := 176) (b0 := false) rfl rfl rfl rfl (decide_eq_false (by decide)) rfl) ?_
    refine Sx.sv (r_pkF rfl (decide_eq_false (by decide)) rfl) rfl (wnt0 rfl) ?_
    refine wnil ?_
    refine Sx.nT ?_
    refine Sx.cf rfl (rfl) ?_
    refine wp_skip ?_
    refine Sx.nT ?_
    refine Sx.seq ?_
    refine Sx.reg ?_
    refine Sx.sv (r_fa fo31_2 rfl) rfl (wnt0 rfl) ?_
    refine Sx.sv (r_ld ty27 rfl (x1.seg) rfl) rfl (wnt0 rfl) ?_
    refine Sx.sv (r_fa fo61_1 rfl) rfl (wnt0 rfl) ?_
    refine Sx.sv (r_ld ty3 rfl (x13.seg) rfl) rfl (wnt0 rfl) ?_
    refine Sx.sv (r_ixi ix27 rfl (by first | rfl | assumption) rfl (by first | rfl | assumption) (by omega)) rfl (wnt0 rfl) ?_
    refine Sx.sv (r_ldr ty43 rfl (m2.seg) rfl) rfl (wnt0 rfl) ?_
    refine Sx.sy (y_all zi43 rfl) rfl (wnt0 rfl) ?_
    rintro _ w16 ⟨b16, rfl, n16, x16⟩
    have l16_x1 : b1 < b16 := Nat.lt_of_lt_of_le x1.lt n16.ge
    have l16_m1 : b < b16 := Nat.lt_of_lt_of_le m1.lt n16.ge
    have l16_m2 : b' < b16 := Nat.lt_of_lt_of_le m2.lt n16.ge
    have l16_x13 : b13 < b16 := Nat.lt_of_lt_of_le x13.lt n16.ge
    have g16 : w.heap.size ≤ b16 := Nat.le_trans E.size n16.ge
    replace x1 := x1.nw n16.r
    replace m1 := m1.nw n16.r
    replace m2 := m2.nw n16.r
    replace x13 := x13.nw n16.r
    replace E := E.then n16.r (fun _ _ h => h.elim)
    refine Sx.syu (u_stR ty43 rfl rfl rfl x16 rfl rfl) rfl (wnt0 rfl) ?_
    rintro w17 ⟨r17, z17, x17n⟩
    replace x1 := x1.ch r17 (by omega)
    replace m1 := m1.ch r17 (by omega)
    replace m2 := m2.ch r17 (by omega)
    replace x13 := x13.ch r17 (by omega)
    replace E := E.then r17 (fun x hx (e : x = b16) => show w.heap.size ≤ x by omega)
    replace x16 := x17n; clear x17n
    refine wnil ?_
    refine Sx.nT ?_
    refine Sx.seq ?_
    refine Sx.reg ?_
    refine Sx.sv (r_fa fo43_0 rfl) rfl (wnt0 rfl) ?_
    refine Sx.sv (r_ld ty3 rfl (x16.seg) rfl) rfl (wnt0 rfl) ?_
    refine Sx.sv (r_mv rfl) rfl (wnt0 rfl) ?_
    refine Sx.sv (r_eq rfl rfl) rfl (wnt0 rfl) ?_
    refine Sx.sv (r_mv rfl) rfl (wnt0 rfl) ?_
    refine Sx.sv (r_fa fo43_1 rfl) rfl (wnt1 (dj := 196) (b0 := true) rfl rfl rfl rfl (decide_eq_true rfl) rfl) ?_
    refine Sx.sv (r_ld ty3 rfl (x16.seg) rfl) rfl (wnt1 (dj := 196) (b0 := true) rfl rfl rfl rfl (decide_eq_true rfl) rfl) ?_
    refine Sx.sv (r_mv rfl) rfl (wnt1 (dj := 196) (b0 := true) rfl rfl rfl rfl (decide_eq_true rfl) rfl) ?_
    refine Sx.sv (r_eq rfl rfl) rfl (wnt1 (dj := 196) (b0 := true) rfl rfl rfl rfl (decide_eq_true rfl) rfl) ?_
    refine Sx.sv (r_pkT rfl (decide_eq_true rfl) rfl) rfl (wnt0 rfl) ?_
    refine Sx.sv (r_mv rfl) rfl (wnt0 rfl) ?_
    refine Sx.sv (r_fa fo43_2 rfl) rfl (wnt1 (dj := 202) (b0 := true) rfl rfl rfl rfl (decide_eq_true hb) rfl) ?_
    refine Sx.sv (r_ld ty3 rfl (x16.seg) rfl) rfl (wnt1 (dj := 202) (b0 := true) rfl rfl rfl rfl (decide_eq_true hb) rfl) ?_
    refine Sx.sv (r_mv rfl) rfl (wnt1 (dj := 202) (b0 := true) rfl rfl rfl rfl (decide_eq_true hb) rfl) ?_
    refine Sx.sv (r_ge rfl rfl) rfl (wnt1 (dj := 202) (b0 := true) rfl rfl rfl rfl (decide_eq_true hb) rfl) ?_
    refine Sx.sv (r_pkT rfl (decide_eq_true hb) rfl) rfl (wnt0 rfl) ?_
    refine Sx.sv (r_as rfl) rfl (wnt0 rfl) ?_
    refine wnil ?_
    refine Sx.nT ?_
    refine wp_ret ?_
    refine Sx.rB ?_
    refine Sx.rB ?_
    refine Sx.rT ?_
    refine Sx.rT ?_
    refine Sx.rB ?_
    refine Sx.rT ?_
    exact Sx.ret1 Try.results20 rfl ⟨rfl, E.toB0⟩
end Go.Proofs.Ytahggnlmabdbbaa.Di
