import Derived.Test.YtahggnlmabdbbaaDoorSvG
namespace Go.Proofs.YtahggnlmabdbbaaDoor.Di
open Go.RowKit Go.Shelf Go.Maps
open Go.Proofs.YtahggnlmabdbbaaDoor.Tp
open Go.Proofs.YtahggnlmabdbbaaDoor.Sx
set_option linter.unusedVariables false
set_option maxRecDepth 100000 in
set_option maxHeartbeats 4000000 in
theorem in_yes (z a b : Int) (w : World) (h0 : a ≤ z) (h1 : z ≤ b) : Calls Tryd.prog 31 #[.int .i64 z, .int .i64 a, .int .i64 b] w fun e w' => e = .returned (.bool true) ∧ w = w' := by
  refine Sx.enter Tryd.func31 rfl Tryd.ntmps31 rfl (fun fr => ?_)
  refine Sx.seq ?_
  refine Sx.reg ?_
  refine Sx.sv (r_as rfl) rfl (wnt0 rfl) ?_
  refine wnil ?_
  refine Sx.nT ?_
  refine Sx.seq ?_
  refine Sx.reg ?_
  refine Sx.sv (r_mv rfl) rfl (wnt0 rfl) ?_
  refine Sx.sv (r_mv rfl) rfl (wnt0 rfl) ?_
  refine Sx.sv (r_ge rfl rfl) rfl (wnt0 rfl) ?_
  refine Sx.sv (r_mv rfl) rfl (wnt0 rfl) ?_
  refine Sx.sv (r_mv rfl) rfl (wnt1 (dj := 10) (b0 := true) rfl rfl rfl rfl (decide_eq_true (by omega)) rfl) ?_
  refine Sx.sv (r_mv rfl) rfl (wnt1 (dj := 10) (b0 := true) rfl rfl rfl rfl (decide_eq_true (by omega)) rfl) ?_
  refine Sx.sv (r_le rfl rfl) rfl (wnt1 (dj := 10) (b0 := true) rfl rfl rfl rfl (decide_eq_true (by omega)) rfl) ?_
  refine Sx.sv (r_pkT rfl (decide_eq_true (by omega)) rfl) rfl (wnt0 rfl) ?_
  refine Sx.sv (r_as rfl) rfl (wnt0 rfl) ?_
  refine wnil ?_
  refine Sx.nT ?_
  refine wp_ret ?_
  exact Sx.ret1 Tryd.results31 rfl ⟨by rw [decide_eq_true h1], rfl⟩
set_option maxRecDepth 100000 in
set_option maxHeartbeats 4000000 in
theorem rvalid_yes (x : Rt) (v : Vr) (w : World) (h : RL w 0 x v) (hok : Rok x) : Calls Tryd.prog 28 #[.agg (gr x v)] w fun e w' => e = .returned (.bool true) ∧ Below w.heap.size w w' := by
  have HX := Has.rl h
  have hc0 := hok.c0
  have hk0 := hok.k0
  have hlg := hok.lg
  have hls := hok.ls
  have hlm := hok.lm
  have hkc := hok.c1
  have hkk := hok.k1
  have E : Rel (fun x => w.heap.size ≤ x) w w := Rel.refl _ _
  refine Sx.enter Tryd.func28 rfl Tryd.ntmps28 rfl (fun fr => ?_)
  refine Sx.seq ?_
  refine Sx.reg ?_
  refine Sx.sy (y_box rfl rfl) rfl (wnt0 rfl) ?_
  rintro _ w1 ⟨b1, rfl, n1, x1⟩
  have g1 : w.heap.size ≤ b1 := Nat.le_trans E.size n1.ge
  replace E := E.then n1.r (fun _ _ h => h.elim)
  refine Sx.sv (r_as rfl) rfl (wnt0 rfl) ?_
  refine wnil ?_
  refine Sx.nT ?_
  refine Sx.seq ?_
  refine Sx.seq ?_
  refine Sx.reg ?_
  refine Sx.sv (r_fa fo27_0 rfl) rfl (wnt0 rfl) ?_
  refine Sx.sv (r_ld ty3 rfl (x1.seg) rfl) rfl (wnt0 rfl) ?_
  refine Sx.sc (r_call en31 rfl) rfl (wnt0 rfl) (in_yes _ _ _ _ (by omega) (by omega)) ?_
  rintro e w2 ⟨rfl, rfl⟩
  refine ⟨_, rfl, ?_⟩
  refine Sx.sv (r_not rfl) rfl (wnt0 rfl) ?_
  refine Sx.sv (r_mv rfl) rfl (wnt0 rfl) ?_
  refine Sx.sv (r_fa fo27_1 rfl) rfl (wnt1 (dj := 13) (b0 := false) rfl rfl rfl rfl (rfl) rfl) ?_
  refine Sx.sv (r_ld ty3 rfl (x1.seg) rfl) rfl (wnt1 (dj := 13) (b0 := false) rfl rfl rfl rfl (rfl) rfl) ?_
  refine Sx.sc (r_call en31 rfl) rfl (wnt1 (dj := 13) (b0 := false) rfl rfl rfl rfl (rfl) rfl) (in_yes _ _ _ _ (by omega) (by omega)) ?_
  rintro e w3 ⟨rfl, rfl⟩
  refine ⟨_, rfl, ?_⟩
  refine Sx.sv (r_not rfl) rfl (wnt1 (dj := 13) (b0 := false) rfl rfl rfl rfl (rfl) rfl) ?_
  refine Sx.sv (r_pkF rfl (rfl) rfl) rfl (wnt0 rfl) ?_
  refine Sx.sv (r_mv rfl) rfl (wnt0 rfl) ?_
  refine Sx.sv (r_fa fo27_2 rfl) rfl (wnt1 (dj := 19) (b0 := false) rfl rfl rfl rfl (rfl) rfl) ?_
  refine Sx.sv (r_ld ty23 rfl (x1.seg) rfl) rfl (wnt1 (dj := 19) (b0 := false) rfl rfl rfl rfl (rfl) rfl) ?_
  refine Sx.sv (r_ln Tryd.underlying23 rfl) rfl (wnt1 (dj := 19) (b0 := false) rfl rfl rfl rfl (rfl) rfl) ?_
  refine Sx.sv (r_gt rfl rfl) rfl (wnt1 (dj := 19) (b0 := false) rfl rfl rfl rfl (rfl) rfl) ?_
  refine Sx.sv (r_pkF rfl (rfl) rfl) rfl (wnt0 rfl) ?_
  refine Sx.sv (r_mv rfl) rfl (wnt0 rfl) ?_
  refine Sx.sv (r_fa fo27_3 rfl) rfl (wnt1 (dj := 25) (b0 := false) rfl rfl rfl rfl (decide_eq_false (by omega)) rfl) ?_
  refine Sx.sv (r_ld ty24 rfl (x1.seg) rfl) rfl (wnt1 (dj := 25) (b0 := false) rfl rfl rfl rfl (decide_eq_false (by omega)) rfl) ?_
  refine Sx.sv (r_ln Tryd.underlying24 rfl) rfl (wnt1 (dj := 25) (b0 := false) rfl rfl rfl rfl (decide_eq_false (by omega)) rfl) ?_
  refine Sx.sv (r_gt rfl rfl) rfl (wnt1 (dj := 25) (b0 := false) rfl rfl rfl rfl (decide_eq_false (by omega)) rfl) ?_
  refine Sx.sv (r_pkF rfl (decide_eq_false (by omega)) rfl) rfl (wnt0 rfl) ?_
  refine Sx.sv (r_mv rfl) rfl (wnt0 rfl) ?_
  refine Sx.sv (r_fa fo27_4 rfl) rfl (wnt1 (dj := 31) (b0 := false) rfl rfl rfl rfl (decide_eq_false (by omega)) rfl) ?_
  refine Sx.sv (r_ld ty25 rfl (x1.seg) rfl) rfl (wnt1 (dj := 31) (b0 := false) rfl rfl rfl rfl (decide_eq_false (by omega)) rfl) ?_
  refine Sx.sv (r_ln Tryd.underlying25 rfl) rfl (wnt1 (dj := 31) (b0 := false) rfl rfl rfl rfl (decide_eq_false (by omega)) rfl) ?_
  refine Sx.sv (r_gt rfl rfl) rfl (wnt1 (dj := 31) (b0 := false) rfl rfl rfl rfl (decide_eq_false (by omega)) rfl) ?_
  refine Sx.sv (r_pkF rfl (decide_eq_false (by omega)) rfl) rfl (wnt0 rfl) ?_
  refine wnil ?_
  refine Sx.nT ?_
  refine Sx.cf rfl (decide_eq_false (by omega)) ?_
  refine wp_skip ?_
  refine Sx.nT ?_
  refine Sx.seq ?_
  refine Sx.seq ?_
  refine Sx.reg ?_
  refine Sx.sv (r_fa fo27_2 rfl) rfl (wnt0 rfl) ?_
  refine Sx.sv (r_ld ty23 rfl (x1.seg) rfl) rfl (wnt0 rfl) ?_
  refine Sx.sv (r_ln Tryd.underlying23 rfl) rfl (wnt0 rfl) ?_
  refine Sx.sv (r_mv rfl) rfl (wnt0 rfl) ?_
  refine wnil ?_
  refine Sx.nT ?_
  refine Sx.blk ?_
  refine Sx.lp (Nat) (fun k => [(40, .int .i64 (k : Int)), (38, .slice v.A1 x.g.length v.c1), (39, .int .i64 (x.g.length : Int)), (1, .pointer (some ⟨b1, 0, none⟩))]) (fun k wr => k ≤ x.g.length ∧ Bx wr b1 [.int .i64 x.c, .int .i64 x.k, .slice v.A1 x.g.length v.c1, .slice v.A2 x.s.length v.c2, .slice v.A3 x.m.length v.c3] 27 ∧ Rel (fun x => w.heap.size ≤ x) w wr) (fun k => x.g.length - k) 0 ⟨rfl, rfl, rfl, rfl, trivial⟩ ⟨Nat.zero_le _, x1, E⟩ ?_
  rintro k fr w4 ⟨hk, x1, E⟩
  show Code.wp _ _ _ (Fa fr [(40, .int .i64 (k : Int)), (38, .slice v.A1 x.g.length v.c1), (39, .int .i64 (x.g.length : Int)), (1, .pointer (some ⟨b1, 0, none⟩))]) _
  refine Sx.seq ?_
  refine Sx.reg ?_
  refine Sx.sv (r_lt rfl rfl) rfl (wnt0 rfl) ?_
  refine wnil ?_
  refine Sx.nT ?_
  refine Sx.seq ?_
  by_cases hlt : k < x.g.length
  · refine Sx.ct rfl (decide_eq_true (by omega)) ?_
    obtain ⟨b, off, hA, -, hb, hg3⟩ := (HX.old E).ok.r1.t3 hlt
    have m1 : Me _ b (off + k * 3) _ := ⟨hb, hg3.seg⟩
    have hgo := hok.g k hlt
    obtain ⟨ho1, ho2, ho3, ho4, ho5, ho6⟩ := hgo
    refine wp_skip ?_
    refine Sx.nT ?_
    refine Sx.seq ?_
    refine Sx.blk ?_
    refine Sx.seq ?_
    refine Sx.reg ?_
    refine Sx.sv (r_ixi ix23 rfl (by first | rfl | assumption) rfl (by first | rfl | assumption) (by omega)) rfl (wnt0 rfl) ?_
    refine Sx.sv (r_ldr ty54 rfl (m1.seg) rfl) rfl (wnt0 rfl) ?_
    refine Sx.sy (y_all zi54 rfl) rfl (wnt0 rfl) ?_
    rintro _ w5 ⟨b5, rfl, n5, x5⟩
    have l5_x1 : b1 < b5 := Nat.lt_of_lt_of_le x1.lt n5.ge
    have l5_m1 : b < b5 := Nat.lt_of_lt_of_le m1.lt n5.ge
    have g5 : w.heap.size ≤ b5 := Nat.le_trans E.size n5.ge
    replace x1 := x1.nw n5.r
    replace m1 := m1.nw n5.r
    replace E := E.then n5.r (fun _ _ h => h.elim)
    refine Sx.syu (u_stR ty54 rfl rfl rfl x5 rfl rfl) rfl (wnt0 rfl) ?_
    rintro w6 ⟨r6, z6, x6n⟩
    replace x1 := x1.ch r6 (by omega)
    replace m1 := m1.ch r6 (by omega)
    replace E := E.then r6 (fun x hx (e : x = b5) => show w.heap.size ≤ x by omega)
    replace x5 := x6n; clear x6n
    refine wnil ?_
    refine Sx.nT ?_
    refine Sx.seq ?_
    refine Sx.reg ?_
    refine Sx.sv (r_fa fo54_0 rfl) rfl (wnt0 rfl) ?_
    refine Sx.sv (r_ld ty3 rfl (x5.seg) rfl) rfl (wnt0 rfl) ?_
    refine Sx.sv (r_fa fo27_0 rfl) rfl (wnt0 rfl) ?_
    refine Sx.sv (r_ld ty3 rfl (x1.seg) rfl) rfl (wnt0 rfl) ?_
    refine Sx.sv (r_sub rfl rfl (by omega) (by omega)) rfl (wnt0 rfl) ?_
    refine Sx.sc (r_call en31 rfl) rfl (wnt0 rfl) (in_yes _ _ _ _ (by omega) (by omega)) ?_
    rintro e w7 ⟨rfl, rfl⟩
    refine ⟨_, rfl, ?_⟩
    refine Sx.sv (r_not rfl) rfl (wnt0 rfl) ?_
    refine Sx.sv (r_mv rfl) rfl (wnt0 rfl) ?_
    refine Sx.sv (r_fa fo54_1 rfl) rfl (wnt1 (dj := 51) (b0 := false) rfl rfl rfl rfl (rfl) rfl) ?_
    refine Sx.sv (r_ld ty3 rfl (x5.seg) rfl) rfl (wnt1 (dj := 51) (b0 := false) rfl rfl rfl rfl (rfl) rfl) ?_
    refine Sx.sv (r_fa fo27_1 rfl) rfl (wnt1 (dj := 51) (b0 := false) rfl rfl rfl rfl (rfl) rfl) ?_
    refine Sx.sv (r_ld ty3 rfl (x1.seg) rfl) rfl (wnt1 (dj := 51) (b0 := false) rfl rfl rfl rfl (rfl) rfl) ?_
    refine Sx.sv (r_sub rfl rfl (by omega) (by omega)) rfl (wnt1 (dj := 51) (b0 := false) rfl rfl rfl rfl (rfl) rfl) ?_
    refine Sx.sc (r_call en31 rfl) rfl (wnt1 (dj := 51) (b0 := false) rfl rfl rfl rfl (rfl) rfl) (in_yes _ _ _ _ (by omega) (by omega)) ?_
    rintro e w8 ⟨rfl, rfl⟩
    refine ⟨_, rfl, ?_⟩
    refine Sx.sv (r_not rfl) rfl (wnt1 (dj := 51) (b0 := false) rfl rfl rfl rfl (rfl) rfl) ?_
    refine Sx.sv (r_pkF rfl (rfl) rfl) rfl (wnt0 rfl) ?_
    refine Sx.sv (r_mv rfl) rfl (wnt0 rfl) ?_
    refine Sx.sv (r_fa fo54_2 rfl) rfl (wnt1 (dj := 60) (b0 := false) rfl rfl rfl rfl (rfl) rfl) ?_
    refine Sx.sv (r_ld ty3 rfl (x5.seg) rfl) rfl (wnt1 (dj := 60) (b0 := false) rfl rfl rfl rfl (rfl) rfl) ?_
    refine Sx.sc (r_call en31 rfl) rfl (wnt1 (dj := 60) (b0 := false) rfl rfl rfl rfl (rfl) rfl) (in_yes _ _ _ _ (by omega) (by omega)) ?_
    rintro e w9 ⟨rfl, rfl⟩
    refine ⟨_, rfl, ?_⟩
    refine Sx.sv (r_not rfl) rfl (wnt1 (dj := 60) (b0 := false) rfl rfl rfl rfl (rfl) rfl) ?_
    refine Sx.sv (r_pkF rfl (rfl) rfl) rfl (wnt0 rfl) ?_
    refine wnil ?_
    refine Sx.nT ?_
    refine Sx.cf rfl (rfl) ?_
    refine wp_skip ?_
    refine Sx.nB ?_
    refine Sx.nT ?_
    refine Sx.reg ?_
    refine Sx.sv (r_add rfl rfl (by omega) (by omega)) rfl (wnt0 rfl) ?_
    refine Sx.sv (r_mv rfl) rfl (wnt0 rfl) ?_
    refine wnil ?_
    refine Sx.nT ?_
    exact Sx.lpe (k + 1) ⟨rfl, rfl, rfl, rfl, trivial⟩ ⟨hlt, x1, E⟩ (show _ - (k + 1) < _ - k by omega)
  · skip
    refine Sx.cf rfl (decide_eq_false (by omega)) ?_
    refine wp_exit ?_
    refine Sx.eT ?_
    refine Sx.eT ?_
    refine Sx.eB ?_
    refine Sx.nT ?_
    refine Sx.seq ?_
    refine Sx.seq ?_
    refine Sx.reg ?_
    refine Sx.sv (r_fa fo27_3 rfl) rfl (wnt0 rfl) ?_
    refine Sx.sv (r_ld ty24 rfl (x1.seg) rfl) rfl (wnt0 rfl) ?_
    refine Sx.sv (r_ln Tryd.underlying24 rfl) rfl (wnt0 rfl) ?_
    refine Sx.sv (r_mv rfl) rfl (wnt0 rfl) ?_
    refine wnil ?_
    refine Sx.nT ?_
    refine Sx.blk ?_
    refine Sx.lp (Nat) (fun k => [(70, .int .i64 (k : Int)), (68, .slice v.A2 x.s.length v.c2), (69, .int .i64 (x.s.length : Int)), (1, .pointer (some ⟨b1, 0, none⟩))]) (fun k wr => k ≤ x.s.length ∧ Bx wr b1 [.int .i64 x.c, .int .i64 x.k, .slice v.A1 x.g.length v.c1, .slice v.A2 x.s.length v.c2, .slice v.A3 x.m.length v.c3] 27 ∧ Rel (fun x => w.heap.size ≤ x) w wr) (fun k => x.s.length - k) 0 ⟨rfl, rfl, rfl, rfl, trivial⟩ ⟨Nat.zero_le _, x1, E⟩ ?_
    rintro k fr w10 ⟨hk, x1, E⟩
    show Code.wp _ _ _ (Fa fr [(70, .int .i64 (k : Int)), (68, .slice v.A2 x.s.length v.c2), (69, .int .i64 (x.s.length : Int)), (1, .pointer (some ⟨b1, 0, none⟩))]) _
    refine Sx.seq ?_
    refine Sx.reg ?_
    refine Sx.sv (r_lt rfl rfl) rfl (wnt0 rfl) ?_
    refine wnil ?_
    refine Sx.nT ?_
    refine Sx.seq ?_
    by_cases hlt : k < x.s.length
    · refine Sx.ct rfl (decide_eq_true (by omega)) ?_
      obtain ⟨b, off, hA, -, hb, hg3⟩ := (HX.old E).ok.r2.t2 hlt
      have m1 : Me _ b (off + k * 2) _ := ⟨hb, hg3.seg⟩
      have hgo := hok.s k hlt
      obtain ⟨ho1, ho2, ho3, ho4⟩ := hgo
      refine wp_skip ?_
      refine Sx.nT ?_
      refine Sx.seq ?_
      refine Sx.blk ?_
      refine Sx.seq ?_
      refine Sx.reg ?_
      refine Sx.sv (r_ixi ix24 rfl (by first | rfl | assumption) rfl (by first | rfl | assumption) (by omega)) rfl (wnt0 rfl) ?_
      refine Sx.sv (r_ldr ty60 rfl (m1.seg) rfl) rfl (wnt0 rfl) ?_
      refine Sx.sy (y_all zi60 rfl) rfl (wnt0 rfl) ?_
      rintro _ w11 ⟨b11, rfl, n11, x11⟩
      have l11_x1 : b1 < b11 := Nat.lt_of_lt_of_le x1.lt n11.ge
      have l11_m1 : b < b11 := Nat.lt_of_lt_of_le m1.lt n11.ge
      have g11 : w.heap.size ≤ b11 := Nat.le_trans E.size n11.ge
      replace x1 := x1.nw n11.r
      replace m1 := m1.nw n11.r
      replace E := E.then n11.r (fun _ _ h => h.elim)
      refine Sx.syu (u_stR ty60 rfl rfl rfl x11 rfl rfl) rfl (wnt0 rfl) ?_
      rintro w12 ⟨r12, z12, x12n⟩
      replace x1 := x1.ch r12 (by omega)
      replace m1 := m1.ch r12 (by omega)
      replace E := E.then r12 (fun x hx (e : x = b11) => show w.heap.size ≤ x by omega)
      replace x11 := x12n; clear x12n
      refine wnil ?_
      refine Sx.nT ?_
      refine Sx.seq ?_
      refine Sx.reg ?_
      refine Sx.sv (r_fa fo60_0 rfl) rfl (wnt0 rfl) ?_
      refine Sx.sv (r_ld ty3 rfl (x11.seg) rfl) rfl (wnt0 rfl) ?_
      refine Sx.sv (r_fa fo27_1 rfl) rfl (wnt0 rfl) ?_
      refine Sx.sv (r_ld ty3 rfl (x1.seg) rfl) rfl (wnt0 rfl) ?_
      refine Sx.sv (r_sub rfl rfl (by omega) (by omega)) rfl (wnt0 rfl) ?_
      refine Sx.sc (r_call en31 rfl) rfl (wnt0 rfl) (in_yes _ _ _ _ (by omega) (by omega)) ?_
      rintro e w13 ⟨rfl, rfl⟩
      refine ⟨_, rfl, ?_⟩
      refine Sx.sv (r_not rfl) rfl (wnt0 rfl) ?_
      refine Sx.sv (r_mv rfl) rfl (wnt0 rfl) ?_
      refine Sx.sv (r_fa fo60_1 rfl) rfl (wnt1 (dj := 81) (b0 := false) rfl rfl rfl rfl (rfl) rfl) ?_
      refine Sx.sv (r_ld ty3 rfl (x11.seg) rfl) rfl (wnt1 (dj := 81) (b0 := false) rfl rfl rfl rfl (rfl) rfl) ?_
      refine Sx.sv (r_fa fo27_0 rfl) rfl (wnt1 (dj := 81) (b0 := false) rfl rfl rfl rfl (rfl) rfl) ?_
      refine Sx.sv (r_ld ty3 rfl (x1.seg) rfl) rfl (wnt1 (dj := 81) (b0 := false) rfl rfl rfl rfl (rfl) rfl) ?_
      refine Sx.sv (r_sub rfl rfl (by omega) (by omega)) rfl (wnt1 (dj := 81) (b0 := false) rfl rfl rfl rfl (rfl) rfl) ?_
      refine Sx.sc (r_call en31 rfl) rfl (wnt1 (dj := 81) (b0 := false) rfl rfl rfl rfl (rfl) rfl) (in_yes _ _ _ _ (by omega) (by omega)) ?_
      rintro e w14 ⟨rfl, rfl⟩
      refine ⟨_, rfl, ?_⟩
      refine Sx.sv (r_not rfl) rfl (wnt1 (dj := 81) (b0 := false) rfl rfl rfl rfl (rfl) rfl) ?_
      refine Sx.sv (r_pkF rfl (rfl) rfl) rfl (wnt0 rfl) ?_
      refine wnil ?_
      refine Sx.nT ?_
      refine Sx.cf rfl (rfl) ?_
      refine wp_skip ?_
      refine Sx.nB ?_
      refine Sx.nT ?_
      refine Sx.reg ?_
      refine Sx.sv (r_add rfl rfl (by omega) (by omega)) rfl (wnt0 rfl) ?_
      refine Sx.sv (r_mv rfl) rfl (wnt0 rfl) ?_
      refine wnil ?_
      refine Sx.nT ?_
      exact Sx.lpe (k + 1) ⟨rfl, rfl, rfl, rfl, trivial⟩ ⟨hlt, x1, E⟩ (show _ - (k + 1) < _ - k by omega)
    · skip
      refine Sx.cf rfl (decide_eq_false (by omega)) ?_
      refine wp_exit ?_
      refine Sx.eT ?_
      refine Sx.eT ?_
      refine Sx.eB ?_
      refine Sx.nT ?_
      refine Sx.seq ?_
      refine Sx.seq ?_
      refine Sx.reg ?_
      refine Sx.sv (r_fa fo27_4 rfl) rfl (wnt0 rfl) ?_
      refine Sx.sv (r_ld ty25 rfl (x1.seg) rfl) rfl (wnt0 rfl) ?_
      refine Sx.sv (r_ln Tryd.underlying25 rfl) rfl (wnt0 rfl) ?_
      refine Sx.sv (r_mv rfl) rfl (wnt0 rfl) ?_
      refine wnil ?_
      refine Sx.nT ?_
      refine Sx.blk ?_
      refine Sx.lp (Nat) (fun k => [(94, .int .i64 (k : Int)), (92, .slice v.A3 x.m.length v.c3), (93, .int .i64 (x.m.length : Int)), (1, .pointer (some ⟨b1, 0, none⟩))]) (fun k wr => k ≤ x.m.length ∧ Bx wr b1 [.int .i64 x.c, .int .i64 x.k, .slice v.A1 x.g.length v.c1, .slice v.A2 x.s.length v.c2, .slice v.A3 x.m.length v.c3] 27 ∧ Rel (fun x => w.heap.size ≤ x) w wr) (fun k => x.m.length - k) 0 ⟨rfl, rfl, rfl, rfl, trivial⟩ ⟨Nat.zero_le _, x1, E⟩ ?_
      rintro k fr w15 ⟨hk, x1, E⟩
      show Code.wp _ _ _ (Fa fr [(94, .int .i64 (k : Int)), (92, .slice v.A3 x.m.length v.c3), (93, .int .i64 (x.m.length : Int)), (1, .pointer (some ⟨b1, 0, none⟩))]) _
      refine Sx.seq ?_
      refine Sx.reg ?_
      refine Sx.sv (r_lt rfl rfl) rfl (wnt0 rfl) ?_
      refine wnil ?_
      refine Sx.nT ?_
      refine Sx.seq ?_
      by_cases hlt : k < x.m.length
      · refine Sx.ct rfl (decide_eq_true (by omega)) ?_
        obtain ⟨b, off, hA, -, hb, hg3⟩ := (HX.old E).ok.r3.t2 hlt
        have m1 : Me _ b (off + k * 2) _ := ⟨hb, hg3.seg⟩
        have hgo := hok.m k hlt
        obtain ⟨ho1, ho2, ho3, ho4⟩ := hgo
        refine wp_skip ?_
        refine Sx.nT ?_
        refine Sx.seq ?_
        refine Sx.blk ?_
        refine Sx.seq ?_
        refine Sx.reg ?_
        refine Sx.sv (r_ixi ix25 rfl (by first | rfl | assumption) rfl (by first | rfl | assumption) (by omega)) rfl (wnt0 rfl) ?_
        refine Sx.sv (r_ldr ty62 rfl (m1.seg) rfl) rfl (wnt0 rfl) ?_
        refine Sx.sy (y_all zi62 rfl) rfl (wnt0 rfl) ?_
        rintro _ w16 ⟨b16, rfl, n16, x16⟩
        have l16_x1 : b1 < b16 := Nat.lt_of_lt_of_le x1.lt n16.ge
        have l16_m1 : b < b16 := Nat.lt_of_lt_of_le m1.lt n16.ge
        have g16 : w.heap.size ≤ b16 := Nat.le_trans E.size n16.ge
        replace x1 := x1.nw n16.r
        replace m1 := m1.nw n16.r
        replace E := E.then n16.r (fun _ _ h => h.elim)
        refine Sx.syu (u_stR ty62 rfl rfl rfl x16 rfl rfl) rfl (wnt0 rfl) ?_
        rintro w17 ⟨r17, z17, x17n⟩
        replace x1 := x1.ch r17 (by omega)
        replace m1 := m1.ch r17 (by omega)
        replace E := E.then r17 (fun x hx (e : x = b16) => show w.heap.size ≤ x by omega)
        replace x16 := x17n; clear x17n
        refine wnil ?_
        refine Sx.nT ?_
        refine Sx.seq ?_
        refine Sx.reg ?_
        refine Sx.sv (r_fa fo62_0 rfl) rfl (wnt0 rfl) ?_
        refine Sx.sv (r_ld ty3 rfl (x16.seg) rfl) rfl (wnt0 rfl) ?_
        refine Sx.sv (r_fa fo27_0 rfl) rfl (wnt0 rfl) ?_
        refine Sx.sv (r_ld ty3 rfl (x1.seg) rfl) rfl (wnt0 rfl) ?_
        refine Sx.sv (r_sub rfl rfl (by omega) (by omega)) rfl (wnt0 rfl) ?_
        refine Sx.sc (r_call en31 rfl) rfl (wnt0 rfl) (in_yes _ _ _ _ (by omega) (by omega)) ?_
        rintro e w18 ⟨rfl, rfl⟩
        refine ⟨_, rfl, ?_⟩
        refine Sx.sv (r_not rfl) rfl (wnt0 rfl) ?_
        refine Sx.sv (r_mv rfl) rfl (wnt0 rfl) ?_
        refine Sx.sv (r_fa fo62_1 rfl) rfl (wnt1 (dj := 105) (b0 := false) rfl rfl rfl rfl (rfl) rfl) ?_
        refine Sx.sv (r_ld ty3 rfl (x16.seg) rfl) rfl (wnt1 (dj := 105) (b0 := false) rfl rfl rfl rfl (rfl) rfl) ?_
        refine Sx.sv (r_fa fo27_0 rfl) rfl (wnt1 (dj := 105) (b0 := false) rfl rfl rfl rfl (rfl) rfl) ?_
        refine Sx.sv (r_ld ty3 rfl (x1.seg) rfl) rfl (wnt1 (dj := 105) (b0 := false) rfl rfl rfl rfl (rfl) rfl) ?_
        refine Sx.sv (r_sub rfl rfl (by omega) (by omega)) rfl (wnt1 (dj := 105) (b0 := false) rfl rfl rfl rfl (rfl) rfl) ?_
        refine Sx.sc (r_call en31 rfl) rfl (wnt1 (dj := 105) (b0 := false) rfl rfl rfl rfl (rfl) rfl) (in_yes _ _ _ _ (by omega) (by omega)) ?_
        rintro e w19 ⟨rfl, rfl⟩
        refine ⟨_, rfl, ?_⟩
        refine Sx.sv (r_not rfl) rfl (wnt1 (dj := 105) (b0 := false) rfl rfl rfl rfl (rfl) rfl) ?_
        refine Sx.sv (r_pkF rfl (rfl) rfl) rfl (wnt0 rfl) ?_
        refine wnil ?_
        refine Sx.nT ?_
        refine Sx.cf rfl (rfl) ?_
        refine wp_skip ?_
        refine Sx.nB ?_
        refine Sx.nT ?_
        refine Sx.reg ?_
        refine Sx.sv (r_add rfl rfl (by omega) (by omega)) rfl (wnt0 rfl) ?_
        refine Sx.sv (r_mv rfl) rfl (wnt0 rfl) ?_
        refine wnil ?_
        refine Sx.nT ?_
        exact Sx.lpe (k + 1) ⟨rfl, rfl, rfl, rfl, trivial⟩ ⟨hlt, x1, E⟩ (show _ - (k + 1) < _ - k by omega)
      · skip
        refine Sx.cf rfl (decide_eq_false (by omega)) ?_
        refine wp_exit ?_
        refine Sx.eT ?_
        refine Sx.eT ?_
        refine Sx.eB ?_
        refine Sx.nT ?_
        refine Sx.seq ?_
        refine Sx.reg ?_
        refine Sx.sv (r_as rfl) rfl (wnt0 rfl) ?_
        refine wnil ?_
        refine Sx.nT ?_
        refine wp_ret ?_
        exact Sx.ret1 Tryd.results28 rfl ⟨rfl, E.toB0⟩
def RsPost (x : Rt) (c : Int) (w : World) (e : Ending) (w' : World) : Prop := ∃ (l : List Int) (A : Option Addr) (cc : Nat), e = .returned (.slice A l.length cc) ∧ l.length ≤ 24 ∧ (∀ y ∈ l, (0 ≤ y ∧ y < x.c) ∧ Rch x c y) ∧ w'.ownsRow w.heap.size 3 1 (.slice A l.length cc) l.length (zv l) ∧ Below w.heap.size w w'
theorem RB.has {w : World} {b n : Nat} {Pr : Nat → Prop} (h : RB w b n Pr) : Has w b (b + 1) (fun w => RB w b n Pr) := by
  obtain ⟨l, h1, h2, h3⟩ := h
  exact ⟨h2.lt, ⟨l, h1, h2, h3⟩, fun w' hs hb => ⟨l, h1, (hb b (Nat.le_refl _) (Nat.lt_succ_self _)).trans h2, h3⟩⟩
set_option maxRecDepth 100000 in
set_option maxHeartbeats 4000000 in
theorem rreach2_any (x : Rt) (v : Vr) (c : Int) (w : World) (h : RL w 0 x v) (hok : Rok x) (hc : 0 ≤ c ∧ c < x.c) :
    Calls Tryd.prog 22 #[.agg (gr x v), .int .i64 c] w (RsPost x c w) := by
  have HX := Has.rl h
  have hc24 := hok.c1
  obtain ⟨n, hn⟩ : ∃ n : Nat, x.c = (n : Int) := ⟨x.c.toNat, by omega⟩
  have E : Rel (fun x => w.heap.size ≤ x) w w := Rel.refl _ _
  refine Sx.enter Tryd.func22 rfl Tryd.ntmps22 rfl (fun fr => ?_)
  refine Sx.seq ?_
  refine Sx.reg ?_
  refine Sx.sy (y_box rfl rfl) rfl (wnt0 rfl) ?_
  rintro _ w1 ⟨b1, rfl, n1, x1⟩
  have l1_HX : w.heap.size ≤ b1 := Nat.le_trans HX.le n1.ge
  have g1 : w.heap.size ≤ b1 := Nat.le_trans E.size n1.ge
  replace HX := HX.nw n1.r
  replace E := E.then n1.r (fun _ _ h => h.elim)
  refine Sx.sv (r_as rfl) rfl (wnt0 rfl) ?_
  refine wnil ?_
  refine Sx.nT ?_
  refine Sx.seq ?_
  refine Sx.seq ?_
  refine Sx.reg ?_
  refine Sx.sv (r_ldr ty27 rfl (x1.seg) rfl) rfl (wnt0 rfl) ?_
  refine Sx.sc (r_call en28 rfl) rfl (wnt0 rfl) (rvalid_yes x v _ HX.ok hok) ?_
  rintro e w2 ⟨rfl, hb2⟩
  refine ⟨_, rfl, ?_⟩
  have r2 := Rel.of0 hb2
  replace HX := HX.nw r2
  replace x1 := x1.nw r2
  replace E := E.then r2 (fun _ _ h => h.elim)
  refine Sx.sv (r_not rfl) rfl (wnt0 rfl) ?_
  refine Sx.sv (r_mv rfl) rfl (wnt0 rfl) ?_
  refine Sx.sv (r_mv rfl) rfl (wnt1 (dj := 11) (b0 := false) rfl rfl rfl rfl (rfl) rfl) ?_
  refine Sx.sv (r_fa fo27_0 rfl) rfl (wnt1 (dj := 11) (b0 := false) rfl rfl rfl rfl (rfl) rfl) ?_
  refine Sx.sv (r_ld ty3 rfl (x1.seg) rfl) rfl (wnt1 (dj := 11) (b0 := false) rfl rfl rfl rfl (rfl) rfl) ?_
  refine Sx.sv (r_sub rfl rfl (by omega) (by omega)) rfl (wnt1 (dj := 11) (b0 := false) rfl rfl rfl rfl (rfl) rfl) ?_
  refine Sx.sc (r_call en31 rfl) rfl (wnt1 (dj := 11) (b0 := false) rfl rfl rfl rfl (rfl) rfl) (in_yes _ _ _ _ (by omega) (by omega)) ?_
  rintro e w3 ⟨rfl, rfl⟩
  refine ⟨_, rfl, ?_⟩
  refine Sx.sv (r_not rfl) rfl (wnt1 (dj := 11) (b0 := false) rfl rfl rfl rfl (rfl) rfl) ?_
  refine Sx.sv (r_pkF rfl (rfl) rfl) rfl (wnt0 rfl) ?_
  refine wnil ?_
  refine Sx.nT ?_
  refine Sx.cf rfl (rfl) ?_
  refine wp_skip ?_
  refine Sx.nT ?_
  refine Sx.seq ?_
  refine Sx.reg ?_
  refine Sx.sv (r_as rfl) rfl (wnt0 rfl) ?_
  refine wnil ?_
  refine Sx.nT ?_
  refine Sx.seq ?_
  refine Sx.seq ?_
  refine Sx.reg ?_
  refine Sx.sv (r_ldr ty27 rfl (x1.seg) rfl) rfl (wnt0 rfl) ?_
  refine Sx.sv (r_mv rfl) rfl (wnt0 rfl) ?_
  refine Sx.sc (r_call en32 rfl) rfl (wnt0 rfl) (rreach_any x v c n _ HX.ok hok hc hn) ?_
  rintro e w4 ⟨br, rfl, hbr, hrb, hb4⟩
  refine ⟨_, rfl, ?_⟩
  have r4 := Rel.of0 hb4
  replace HX := HX.nw r4
  replace x1 := x1.nw r4
  replace E := E.then r4 (fun _ _ h => h.elim)
  have HR := hrb.has
  refine Sx.sv (r_ln Tryd.underlying70 rfl) rfl (wnt0 rfl) ?_
  refine Sx.sv (r_mv rfl) rfl (wnt0 rfl) ?_
  refine wnil ?_
  refine Sx.nT ?_
  refine Sx.blk ?_
  have hwW0 := E.size
  have t5_HX := HX.le
  have t5_x1 := x1.lt
  have t5_HR := HR.le
  refine Sx.lp (Nat × List Int × Option Addr × Nat) (fun ⟨k, l, A, cc⟩ => [(23, .int .i64 (k : Int)), (22, .int .i64 (n : Int)), (21, .slice (some ⟨br, 0, none⟩) n n), (5, .slice A l.length cc)]) (fun ⟨k, l, A, cc⟩ wr => Rel (fun x => w4.heap.size ≤ x) w4 wr ∧ k ≤ n ∧ l.length ≤ k ∧ (∀ y ∈ l, (0 ≤ y ∧ y < x.c) ∧ Rch x c y) ∧ wr.ownsRow w4.heap.size 3 1 (.slice A l.length cc) l.length (zv l)) (fun ⟨k, l, A, cc⟩ => n - k) ⟨0, [], none, 0⟩ ⟨rfl, rfl, rfl, rfl, trivial⟩ ⟨Rel.refl _ _, Nat.zero_le _, Nat.zero_le _, (fun y hy => by cases hy), Sx.own_nil _ _ _ _⟩ ?_
  rintro ⟨k, l, A, cc⟩ fr w5 ⟨E5, hk, hlk, hF, own⟩
  show Code.wp _ _ _ (Fa fr [(23, .int .i64 (k : Int)), (22, .int .i64 (n : Int)), (21, .slice (some ⟨br, 0, none⟩) n n), (5, .slice A l.length cc)]) _
  replace HX := HX.rel E5 (fun x h1 h2 => show ¬ (w4.heap.size ≤ x) by omega)
  replace x1 := x1.rel E5 (show ¬ (w4.heap.size ≤ b1) by omega)
  replace HR := HR.rel E5 (fun x h1 h2 => show ¬ (w4.heap.size ≤ x) by omega)
  have s5_E := E.size
  replace E := E.then E5 (fun x hx (e : w4.heap.size ≤ x) => show w.heap.size ≤ x by omega)
  refine Sx.seq ?_
  refine Sx.reg ?_
  refine Sx.sv (r_lt rfl rfl) rfl (wnt0 rfl) ?_
  refine wnil ?_
  refine Sx.nT ?_
  refine Sx.seq ?_
  by_cases hlt : k < n
  · refine Sx.ct rfl (decide_eq_true (by omega)) ?_
    obtain ⟨lb, hb1, hb2, hb3⟩ := HR.ok
    obtain ⟨t, htb, hvt⟩ := bool_at hb1 hlt
    have mb : Me _ br (0 + k) [.bool t] := .one hb2.lt (hb2.seg k _ hvt)
    refine wp_skip ?_
    refine Sx.nT ?_
    refine Sx.seq ?_
    refine Sx.blk ?_
    refine Sx.seq ?_
    refine Sx.reg ?_
    refine Sx.sv (r_mv rfl) rfl (wnt0 rfl) ?_
    refine Sx.sv (r_ix1i ix70 rfl (by first | rfl | assumption) rfl (by first | rfl | assumption) (by omega)) rfl (wnt0 rfl) ?_
    refine Sx.sv (r_ld0 ty4 rfl (mb.seg) rfl) rfl (wnt0 rfl) ?_
    refine Sx.sv (r_as rfl) rfl (wnt0 rfl) ?_
    refine Sx.sv (r_as rfl) rfl (wnt0 rfl) ?_
    refine wnil ?_
    refine Sx.nT ?_
    refine Sx.seq ?_
    refine Sx.reg ?_
    refine Sx.sv (r_mv rfl) rfl (wnt0 rfl) ?_
    refine wnil ?_
    refine Sx.nT ?_
    cases t
    · refine Sx.cf rfl (rfl) ?_
      refine wp_skip ?_
      refine Sx.nB ?_
      refine Sx.nT ?_
      refine Sx.reg ?_
      refine Sx.sv (r_add rfl rfl (by omega) (by omega)) rfl (wnt0 rfl) ?_
      refine Sx.sv (r_mv rfl) rfl (wnt0 rfl) ?_
      refine wnil ?_
      refine Sx.nT ?_
      exact Sx.lpe (⟨k + 1, l, A, cc⟩) ⟨rfl, rfl, rfl, rfl, trivial⟩ ⟨E5, hlt, by omega, hF, own⟩ (show n - (k + 1) < n - k by omega)
    · refine Sx.ct rfl (rfl) ?_
      refine Sx.reg ?_
      refine Sx.sv (r_mv rfl) rfl (wnt0 rfl) ?_
      refine Sx.sv (r_mv rfl) rfl (wnt0 rfl) ?_
      refine Sx.sy (y_bs rfl (bs22_1 _)) rfl (wnt0 rfl) ?_
      rintro _ w6 ⟨b6, rfl, n6, x6⟩
      have l6_HX : w.heap.size ≤ b6 := Nat.le_trans HX.le n6.ge
      have l6_x1 : b1 < b6 := Nat.lt_of_lt_of_le x1.lt n6.ge
      have l6_HR : br + 1 ≤ b6 := Nat.le_trans HR.le n6.ge
      have f6_own := fresh_own own n6.ge
      have g6 : w.heap.size ≤ b6 := Nat.le_trans E.size n6.ge
      have g6_E5 : w4.heap.size ≤ b6 := Nat.le_trans E5.size n6.ge
      replace HX := HX.nw n6.r
      replace x1 := x1.nw n6.r
      replace HR := HR.nw n6.r
      replace own := own_nw own n6.r
      replace E := E.then n6.r (fun _ _ h => h.elim)
      replace E5 := E5.then n6.r (fun _ _ h => h.elim)
      refine Sx.sy (y_app Tryd.underlying22 zi3 rfl (by decide) (by decide) rfl rfl own x6 rfl rfl (by omega) (by have := E.size; have := E5.size; omega)) rfl (wnt0 rfl) ?_
      rintro _ w7 ⟨A7, c7, rfl, o7, r7, a7⟩
      replace HX := HX.rel r7 (fun b h1 h2 e => by have := own_ge own e; omega)
      replace x1 := x1.rel r7 (by first | assumption | exact own_not own x1 (by decide) | exact own_far own (by omega))
      replace HR := HR.rel r7 (fun b h1 h2 e => by have := own_ge own e; omega)
      replace x6 := x6.rel r7 (by first | assumption | exact own_not own x6 (by decide) | exact own_far own (by omega))
      replace E := E.then r7 (fun x hx e => show w.heap.size ≤ x by have := own_ge own e; omega)
      replace E5 := E5.then r7 (fun x hx e => show w4.heap.size ≤ x by have := own_ge own e; omega)
      replace own := o7; clear o7
      clear x6
      refine Sx.sv (r_as rfl) rfl (wnt0 rfl) ?_
      refine wnil ?_
      refine Sx.nB ?_
      refine Sx.nT ?_
      refine Sx.reg ?_
      refine Sx.sv (r_add rfl rfl (by omega) (by omega)) rfl (wnt0 rfl) ?_
      refine Sx.sv (r_mv rfl) rfl (wnt0 rfl) ?_
      refine wnil ?_
      refine Sx.nT ?_
      have hle : (l ++ [(k : Int)]).length = l.length + 1 := by simp
      exact Sx.lpe (⟨k + 1, l ++ [(k : Int)], A7, c7⟩) ⟨rfl, rfl, rfl, by rw [hle]; rfl, trivial⟩ ⟨E5, hlt, by rw [hle]; omega, (fun y hy => by rcases List.mem_append.1 hy with hy | hy; exact hF y hy; rw [List.mem_singleton] at hy; subst hy; exact ⟨⟨by omega, by omega⟩, hb3 k htb⟩), by rw [zv_snoc, hle]; exact own⟩ (show n - (k + 1) < n - k by omega)
  · refine Sx.cf rfl (decide_eq_false (by omega)) ?_
    refine wp_exit ?_
    refine Sx.eT ?_
    refine Sx.eT ?_
    refine Sx.eB ?_
    refine Sx.nT ?_
    refine Sx.seq ?_
    refine Sx.reg ?_
    refine Sx.sv (r_mv rfl) rfl (wnt0 rfl) ?_
    refine Sx.sv (r_as rfl) rfl (wnt0 rfl) ?_
    refine wnil ?_
    refine Sx.nT ?_
    refine wp_ret ?_
    exact Sx.ret1 Tryd.results22 rfl ⟨l, A, cc, rfl, by omega, hF, own_base own hwW0, E.toB0⟩
end Go.Proofs.YtahggnlmabdbbaaDoor.Di
