import Derived.Test.YtahggnlmabdbbaaDoorSvA
namespace Go.Proofs.YtahggnlmabdbbaaDoor.Di
open Go.RowKit Go.Shelf Go.Maps
open Go.Proofs.YtahggnlmabdbbaaDoor.Tp
open Go.Proofs.YtahggnlmabdbbaaDoor.Sx
set_option linter.unusedVariables false
/-- The worth of powers. -/
def smW (p ws : List Int) : Nat → Int
  | 0 => 0
  | k + 1 => smW p ws k + e0 ws k * e0 p k
theorem mul_b {a b : Int} {A B : Int} (h0 : 0 ≤ a) (h1 : a ≤ A) (h2 : 0 ≤ b) (h3 : b ≤ B) : 0 ≤ a * b ∧ a * b ≤ A * B :=
  ⟨Int.mul_nonneg h0 h2, Int.mul_le_mul h1 h3 h2 (Int.le_trans h0 h1)⟩
theorem pwr_b {x : Rt} (hok : Rok x) (c : Int) {i : Nat} (hi : i < x.k.toNat) : 0 ≤ e0 (pwr x c) i ∧ e0 (pwr x c) i ≤ 3 := by
  unfold pwr
  rw [pw_at _ _ hi]
  refine ⟨gt_nonneg _ _ _ _, gt_le _ _ _ 3 (by decide) _ (fun j hj _ _ => ?_)⟩
  have := hok.g j hj
  unfold okG at this
  omega
theorem smW_b {p ws : List Int} (hp : ∀ i, i < ws.length → 0 ≤ e0 p i ∧ e0 p i ≤ 3) (hw : ∀ i, i < ws.length → 0 ≤ e0 ws i ∧ e0 ws i ≤ 100) : ∀ k, k ≤ ws.length → 0 ≤ smW p ws k ∧ smW p ws k ≤ 300 * k
  | 0, _ => by simp [smW]
  | k + 1, h => by
    have h1 := smW_b hp hw k (by omega)
    have h2 := mul_b (hw k (by omega)).1 (hw k (by omega)).2 (hp k (by omega)).1 (hp k (by omega)).2
    rw [smW]
    omega
set_option maxRecDepth 100000 in
set_option maxHeartbeats 4000000 in
theorem wrong_no (z : Int) (w : World) (h0 : 0 ≤ z) (h1 : z ≤ 100) : Calls Tryd.prog 25 #[.int .i64 z] w fun e w' => e = .returned (.bool false) ∧ w = w' := by
  refine Sx.enter Tryd.func25 rfl Tryd.ntmps25 rfl (fun fr => ?_)
  refine Sx.seq ?_
  refine Sx.reg ?_
  refine Sx.sv (r_as rfl) rfl (wnt0 rfl) ?_
  refine wnil ?_
  refine Sx.nT ?_
  refine Sx.seq ?_
  refine Sx.reg ?_
  refine Sx.sv (r_mv rfl) rfl (wnt0 rfl) ?_
  refine Sx.sv (r_lt rfl rfl) rfl (wnt0 rfl) ?_
  refine Sx.sv (r_mv rfl) rfl (wnt0 rfl) ?_
  refine Sx.sv (r_mv rfl) rfl (wnt1 (dj := 5) (b0 := false) rfl rfl rfl rfl (decide_eq_false (by omega)) rfl) ?_
  refine Sx.sv (r_gt rfl rfl) rfl (wnt1 (dj := 5) (b0 := false) rfl rfl rfl rfl (decide_eq_false (by omega)) rfl) ?_
  refine Sx.sv (r_pkF rfl (decide_eq_false (by omega)) rfl) rfl (wnt0 rfl) ?_
  refine Sx.sv (r_as rfl) rfl (wnt0 rfl) ?_
  refine wnil ?_
  refine Sx.nT ?_
  refine wp_ret ?_
  exact Sx.ret1 Tryd.results25 rfl ⟨by rw [show decide (100 < z) = false from decide_eq_false (by omega)], rfl⟩
set_option maxRecDepth 100000 in
set_option maxHeartbeats 4000000 in
theorem ixf_no (l : List Int) (A : Option Addr) (c : Nat) (w : World) (hl : Row w 0 1 A l.length (zv l)) (hn : l.length ≤ 1099511627776) (hw : ∀ j, j < l.length → 0 ≤ e0 l j ∧ e0 l j ≤ 100) :
    Calls Tryd.prog 40 #[.slice A l.length c, .func (.func 25) #[] #[]] w fun e w' => e = .returned (.int .i64 (-1)) ∧ w = w' := by
  refine Sx.enter Tryd.func40 rfl Tryd.ntmps40 rfl (fun fr => ?_)
  refine Sx.seq ?_
  refine Sx.reg ?_
  refine Sx.sv (r_as rfl) rfl (wnt0 rfl) ?_
  refine wnil ?_
  refine Sx.nT ?_
  refine Sx.seq ?_
  refine Sx.seq ?_
  refine Sx.reg ?_
  refine Sx.sv (r_mv rfl) rfl (wnt0 rfl) ?_
  refine Sx.sv (r_ln Tryd.underlying22 rfl) rfl (wnt0 rfl) ?_
  refine Sx.sv (r_mv rfl) rfl (wnt0 rfl) ?_
  refine wnil ?_
  refine Sx.nT ?_
  refine Sx.blk ?_
  refine Sx.lp (Nat) (fun k => [(8, .int .i64 (k : Int)), (7, .int .i64 (l.length : Int)), (0, .slice A l.length c), (1, .func (.func 25) #[] #[])]) (fun k wr => k ≤ l.length ∧ w = wr) (fun k => l.length - k) 0 ⟨rfl, rfl, rfl, rfl, trivial⟩ ⟨Nat.zero_le _, rfl⟩ ?_
  rintro k fr w1 ⟨hk, rfl⟩
  show Code.wp _ _ _ (Fa fr [(8, .int .i64 (k : Int)), (7, .int .i64 (l.length : Int)), (0, .slice A l.length c), (1, .func (.func 25) #[] #[])]) _
  refine Sx.seq ?_
  refine Sx.reg ?_
  refine Sx.sv (r_lt rfl rfl) rfl (wnt0 rfl) ?_
  refine wnil ?_
  refine Sx.nT ?_
  refine Sx.seq ?_
  by_cases hlt : k < l.length
  · refine Sx.ct rfl (decide_eq_true (by omega)) ?_
    obtain ⟨b, off, hA, -, hb, hc⟩ := hl.z hlt
    have m1 : Me _ b (off + k) [_] := .one hb hc
    have hr := hw k hlt
    refine wp_skip ?_
    refine Sx.nT ?_
    refine Sx.seq ?_
    refine Sx.blk ?_
    refine Sx.seq ?_
    refine Sx.reg ?_
    refine Sx.sv (r_mv rfl) rfl (wnt0 rfl) ?_
    refine Sx.sv (r_as rfl) rfl (wnt0 rfl) ?_
    refine wnil ?_
    refine Sx.nT ?_
    refine Sx.seq ?_
    refine Sx.reg ?_
    refine Sx.sv (r_mv rfl) rfl (wnt0 rfl) ?_
    refine Sx.sv (r_mv rfl) rfl (wnt0 rfl) ?_
    refine Sx.sv (r_mv rfl) rfl (wnt0 rfl) ?_
    refine Sx.sv (r_ix1i ix22 rfl (by first | rfl | assumption) rfl (by first | rfl | assumption) (by omega)) rfl (wnt0 rfl) ?_
    refine Sx.sv (r_ld0 ty3 rfl (m1.seg) rfl) rfl (wnt0 rfl) ?_
    refine Sx.sc (r_callv en25 rfl rfl) rfl (wnt0 rfl) (wrong_no _ _ hr.1 hr.2) ?_
    rintro e w2 ⟨rfl, rfl⟩
    refine ⟨_, rfl, ?_⟩
    refine wnil ?_
    refine Sx.nT ?_
    refine Sx.cf rfl (rfl) ?_
    refine wp_skip ?_
    refine Sx.nB ?_
    refine Sx.nT ?_
    refine Sx.reg ?_
    refine Sx.sv (r_add rfl rfl (by omega) (by omega)) rfl (wnt0 rfl) ?_
    refine Sx.sv (r_mv rfl) rfl (wnt0 rfl) ?_
    refine wnil ?_
    refine Sx.nT ?_
    exact Sx.lpe (k + 1) ⟨rfl, rfl, rfl, rfl, trivial⟩ ⟨hlt, rfl⟩ (show _ - (k + 1) < _ - k by omega)
  · refine Sx.cf rfl (decide_eq_false (by omega)) ?_
    refine wp_exit ?_
    refine Sx.eT ?_
    refine Sx.eT ?_
    refine Sx.eB ?_
    refine Sx.nT ?_
    refine Sx.seq ?_
    refine Sx.reg ?_
    refine Sx.sv (r_as rfl) rfl (wnt0 rfl) ?_
    refine wnil ?_
    refine Sx.nT ?_
    refine wp_ret ?_
    exact Sx.ret1 Tryd.results40 rfl ⟨rfl, rfl⟩
set_option maxRecDepth 100000 in
set_option maxHeartbeats 4000000 in
theorem cfi_no (l : List Int) (A : Option Addr) (c : Nat) (w : World) (hl : Row w 0 1 A l.length (zv l)) (hn : l.length ≤ 1099511627776) (hw : ∀ j, j < l.length → 0 ≤ e0 l j ∧ e0 l j ≤ 100) :
    Calls Tryd.prog 26 #[.slice A l.length c, .func (.func 25) #[] #[]] w fun e w' => e = .returned (.bool false) ∧ w = w' := by
  refine Sx.enter Tryd.func26 rfl Tryd.ntmps26 rfl (fun fr => ?_)
  refine Sx.seq ?_
  refine Sx.reg ?_
  refine Sx.sv (r_as rfl) rfl (wnt0 rfl) ?_
  refine wnil ?_
  refine Sx.nT ?_
  refine Sx.seq ?_
  refine Sx.reg ?_
  refine Sx.sv (r_mv rfl) rfl (wnt0 rfl) ?_
  refine Sx.sv (r_mv rfl) rfl (wnt0 rfl) ?_
  refine Sx.sc (r_call en40 rfl) rfl (wnt0 rfl) (ixf_no l A c _ hl hn hw) ?_
  rintro e w1 ⟨rfl, rfl⟩
  refine ⟨_, rfl, ?_⟩
  refine Sx.sv (r_ge rfl rfl) rfl (wnt0 rfl) ?_
  refine Sx.sv (r_as rfl) rfl (wnt0 rfl) ?_
  refine wnil ?_
  refine Sx.nT ?_
  refine wp_ret ?_
  exact Sx.ret1 Tryd.results26 rfl ⟨rfl, rfl⟩
set_option maxRecDepth 100000 in
set_option maxHeartbeats 4000000 in
theorem worth_yes (x : Rt) (v : Vr) (ws : List Int) (A : Option Addr) (cA : Nat) (c : Int) (w : World) (h : RL w 0 x v) (hl : Row w 0 1 A ws.length (zv ws)) (hok : Rok x) (hc : 0 ≤ c ∧ c < x.c) (hn : (ws.length : Int) = x.k) (hw : ∀ j, j < ws.length → 0 ≤ e0 ws j ∧ e0 ws j ≤ 100) :
    Calls Tryd.prog 16 #[.agg (gr x v), .slice A ws.length cA, .int .i64 c] w fun e w' => e = .returned (.tuple #[.int .i64 (smW (pwr x c) ws ws.length), .int .i64 0]) ∧ Below w.heap.size w w' := by
  have HX := Has.rl h
  have HL := Has.row hl
  have hk24 := hok.k1
  have hsz : szs x := ⟨by have := hok.lg; omega, by have := hok.ls; omega, by have := hok.lm; omega⟩
  have E : Rel (fun x => w.heap.size ≤ x) w w := Rel.refl _ _
  refine Sx.enter Tryd.func16 rfl Tryd.ntmps16 rfl (fun fr => ?_)
  refine Sx.seq ?_
  refine Sx.reg ?_
  refine Sx.sy (y_box rfl rfl) rfl (wnt0 rfl) ?_
  rintro _ w1 ⟨b1, rfl, n1, x1⟩
  have l1_HX : w.heap.size ≤ b1 := Nat.le_trans HX.le n1.ge
  have l1_HL : w.heap.size ≤ b1 := Nat.le_trans HL.le n1.ge
  have g1 : w.heap.size ≤ b1 := Nat.le_trans E.size n1.ge
  replace HX := HX.nw n1.r
  replace HL := HL.nw n1.r
  replace E := E.then n1.r (fun _ _ h => h.elim)
  refine Sx.sv (r_as rfl) rfl (wnt0 rfl) ?_
  refine Sx.sv (r_as rfl) rfl (wnt0 rfl) ?_
  refine wnil ?_
  refine Sx.nT ?_
  refine Sx.seq ?_
  refine Sx.seq ?_
  refine Sx.reg ?_
  refine Sx.sv (r_ldr ty27 rfl (x1.seg) rfl) rfl (wnt0 rfl) ?_
  refine Sx.sc (r_call en24 rfl) rfl (wnt0 rfl) (check_any x v _ HX.ok hsz) ?_
  rintro e w2 ⟨rfl, hb2⟩
  refine ⟨_, rfl, ?_⟩
  have r2 := Rel.of0 hb2
  replace HX := HX.nw r2
  replace HL := HL.nw r2
  replace x1 := x1.nw r2
  replace E := E.then r2 (fun _ _ h => h.elim)
  refine Sx.sv (r_as rfl) rfl (wnt0 rfl) ?_
  refine wnil ?_
  refine Sx.nT ?_
  refine Sx.seq ?_
  refine Sx.reg ?_
  refine Sx.sv (r_mv rfl) rfl (wnt0 rfl) ?_
  refine Sx.sv (r_ne rfl rfl) rfl (wnt0 rfl) ?_
  refine wnil ?_
  refine Sx.nT ?_
  refine Sx.cf rfl (decide_eq_false (fun h => h (ck_ok hok))) ?_
  refine wp_skip ?_
  refine Sx.nT ?_
  refine Sx.seq ?_
  refine Sx.reg ?_
  refine Sx.sv (r_as rfl) rfl (wnt0 rfl) ?_
  refine wnil ?_
  refine Sx.nT ?_
  refine Sx.seq ?_
  refine Sx.seq ?_
  refine Sx.reg ?_
  refine Sx.sv (r_mv rfl) rfl (wnt0 rfl) ?_
  refine Sx.sv (r_ln Tryd.underlying22 rfl) rfl (wnt0 rfl) ?_
  refine Sx.sv (r_fa fo27_1 rfl) rfl (wnt0 rfl) ?_
  refine Sx.sv (r_ld ty3 rfl (x1.seg) rfl) rfl (wnt0 rfl) ?_
  refine Sx.sv (r_ne rfl rfl) rfl (wnt0 rfl) ?_
  refine Sx.sv (r_mv rfl) rfl (wnt0 rfl) ?_
  refine Sx.sv (r_mv rfl) rfl (wnt1 (dj := 23) (b0 := false) rfl rfl rfl rfl (decide_eq_false (by omega)) rfl) ?_
  refine Sx.sv (r_mv rfl) rfl (wnt1 (dj := 23) (b0 := false) rfl rfl rfl rfl (decide_eq_false (by omega)) rfl) ?_
  refine Sx.sc (r_call en26 rfl) rfl (wnt1 (dj := 23) (b0 := false) rfl rfl rfl rfl (decide_eq_false (by omega)) rfl) (cfi_no ws A cA _ HL.ok (by omega) hw) ?_
  rintro e w3 ⟨rfl, rfl⟩
  refine ⟨_, rfl, ?_⟩
  refine Sx.sv (r_pkF rfl (decide_eq_false (by omega)) rfl) rfl (wnt0 rfl) ?_
  refine wnil ?_
  refine Sx.nT ?_
  refine Sx.cf rfl (rfl) ?_
  refine wp_skip ?_
  refine Sx.nT ?_
  refine Sx.seq ?_
  refine Sx.seq ?_
  refine Sx.reg ?_
  refine Sx.sv (r_mv rfl) rfl (wnt0 rfl) ?_
  refine Sx.sv (r_lt rfl rfl) rfl (wnt0 rfl) ?_
  refine Sx.sv (r_mv rfl) rfl (wnt0 rfl) ?_
  refine Sx.sv (r_mv rfl) rfl (wnt1 (dj := 30) (b0 := false) rfl rfl rfl rfl (decide_eq_false (by omega)) rfl) ?_
  refine Sx.sv (r_fa fo27_0 rfl) rfl (wnt1 (dj := 30) (b0 := false) rfl rfl rfl rfl (decide_eq_false (by omega)) rfl) ?_
  refine Sx.sv (r_ld ty3 rfl (x1.seg) rfl) rfl (wnt1 (dj := 30) (b0 := false) rfl rfl rfl rfl (decide_eq_false (by omega)) rfl) ?_
  refine Sx.sv (r_ge rfl rfl) rfl (wnt1 (dj := 30) (b0 := false) rfl rfl rfl rfl (decide_eq_false (by omega)) rfl) ?_
  refine Sx.sv (r_pkF rfl (decide_eq_false (by omega)) rfl) rfl (wnt0 rfl) ?_
  refine wnil ?_
  refine Sx.nT ?_
  refine Sx.cf rfl (decide_eq_false (by omega)) ?_
  refine wp_skip ?_
  refine Sx.nT ?_
  refine Sx.seq ?_
  refine Sx.reg ?_
  refine Sx.sv (r_as rfl) rfl (wnt0 rfl) ?_
  refine wnil ?_
  refine Sx.nT ?_
  refine Sx.seq ?_
  refine Sx.seq ?_
  refine Sx.reg ?_
  refine Sx.sv (r_ldr ty27 rfl (x1.seg) rfl) rfl (wnt0 rfl) ?_
  refine Sx.sv (r_mv rfl) rfl (wnt0 rfl) ?_
  refine Sx.sc (r_call en27 rfl) rfl (wnt0 rfl) (power_yes x v c _ HX.ok hsz ⟨hok, hc⟩) ?_
  rintro e w4 ⟨Ap, cp, rfl, hpo, hb4⟩
  refine ⟨_, rfl, ?_⟩
  have r4 := Rel.of0 hb4
  replace HX := HX.nw r4
  replace HL := HL.nw r4
  replace x1 := x1.nw r4
  replace E := E.then r4 (fun _ _ h => h.elim)
  have HP := Has.row (row_of_own hpo)
  have hpl : (pwr x c).length = x.k.toNat := pw_len _ _
  refine Sx.sv (r_ln Tryd.underlying22 rfl) rfl (wnt0 rfl) ?_
  refine Sx.sv (r_mv rfl) rfl (wnt0 rfl) ?_
  refine wnil ?_
  refine Sx.nT ?_
  refine Sx.blk ?_
  have hpb : ∀ i, i < ws.length → 0 ≤ e0 (pwr x c) i ∧ e0 (pwr x c) i ≤ 3 := fun i hi => pwr_b hok c (by omega)
  have t5_HX := HX.le
  have t5_HL := HL.le
  have t5_x1 := x1.lt
  have t5_HP := HP.le
  refine Sx.lp (Nat) (fun k => [(40, .int .i64 (k : Int)), (39, .int .i64 ((pwr x c).length : Int)), (38, .slice Ap (pwr x c).length cp), (10, .int .i64 (smW (pwr x c) ws k)), (1, .slice A ws.length cA)]) (fun k wr => Rel (fun x => w4.heap.size ≤ x) w4 wr ∧ k ≤ ws.length) (fun k => ws.length - k) 0 ⟨rfl, rfl, rfl, rfl, rfl, trivial⟩ ⟨Rel.refl _ _, Nat.zero_le _⟩ ?_
  rintro k fr w5 ⟨E5, hk⟩
  show Code.wp _ _ _ (Fa fr [(40, .int .i64 (k : Int)), (39, .int .i64 ((pwr x c).length : Int)), (38, .slice Ap (pwr x c).length cp), (10, .int .i64 (smW (pwr x c) ws k)), (1, .slice A ws.length cA)]) _
  replace HX := HX.rel E5 (fun x h1 h2 => show ¬ (w4.heap.size ≤ x) by omega)
  replace HL := HL.rel E5 (fun x h1 h2 => show ¬ (w4.heap.size ≤ x) by omega)
  replace x1 := x1.rel E5 (show ¬ (w4.heap.size ≤ b1) by omega)
  replace HP := HP.rel E5 (fun x h1 h2 => show ¬ (w4.heap.size ≤ x) by omega)
  have s5_E := E.size
  replace E := E.then E5 (fun x hx (e : w4.heap.size ≤ x) => show w.heap.size ≤ x by omega)
  refine Sx.seq ?_
  refine Sx.reg ?_
  refine Sx.sv (r_lt rfl rfl) rfl (wnt0 rfl) ?_
  refine wnil ?_
  refine Sx.nT ?_
  refine Sx.seq ?_
  by_cases hlt : k < ws.length
  · refine Sx.ct rfl (decide_eq_true (by omega)) ?_
    obtain ⟨ba, oa, hA1, -, hba, hca⟩ := HP.ok.z (show k < (pwr x c).length by omega)
    obtain ⟨bp, op, hA2, -, hbp, hcp⟩ := HL.ok.z hlt
    have m1 : Me _ ba (oa + k) [_] := .one hba hca
    have m2 : Me _ bp (op + k) [_] := .one hbp hcp
    have h2 := mul_b (hw k hlt).1 (hw k hlt).2 (hpb k hlt).1 (hpb k hlt).2
    have h3 := smW_b hpb hw k hk
    refine wp_skip ?_
    refine Sx.nT ?_
    refine Sx.seq ?_
    refine Sx.blk ?_
    refine Sx.seq ?_
    refine Sx.reg ?_
    refine Sx.sv (r_mv rfl) rfl (wnt0 rfl) ?_
    refine Sx.sv (r_ix1i ix22 rfl (by first | rfl | assumption) rfl (by first | rfl | assumption) (by omega)) rfl (wnt0 rfl) ?_
    refine Sx.sv (r_ld0 ty3 rfl (m1.seg) rfl) rfl (wnt0 rfl) ?_
    refine Sx.sv (r_as rfl) rfl (wnt0 rfl) ?_
    refine Sx.sv (r_as rfl) rfl (wnt0 rfl) ?_
    refine wnil ?_
    refine Sx.nT ?_
    refine Sx.reg ?_
    refine Sx.sv (r_mv rfl) rfl (wnt0 rfl) ?_
    refine Sx.sv (r_mv rfl) rfl (wnt0 rfl) ?_
    refine Sx.sv (r_mv rfl) rfl (wnt0 rfl) ?_
    refine Sx.sv (r_ix1i ix22 rfl (by first | rfl | assumption) rfl (by first | rfl | assumption) (by omega)) rfl (wnt0 rfl) ?_
    refine Sx.sv (r_ld0 ty3 rfl (m2.seg) rfl) rfl (wnt0 rfl) ?_
    refine Sx.sv (r_mv rfl) rfl (wnt0 rfl) ?_
    refine Sx.sv (r_mul rfl rfl (by omega) (by omega)) rfl (wnt0 rfl) ?_
    refine Sx.sv (r_add rfl rfl (by omega) (by omega)) rfl (wnt0 rfl) ?_
    refine Sx.sv (r_as rfl) rfl (wnt0 rfl) ?_
    refine wnil ?_
    refine Sx.nB ?_
    refine Sx.nT ?_
    refine Sx.reg ?_
    refine Sx.sv (r_add rfl rfl (by omega) (by omega)) rfl (wnt0 rfl) ?_
    refine Sx.sv (r_mv rfl) rfl (wnt0 rfl) ?_
    refine wnil ?_
    refine Sx.nT ?_
    exact Sx.lpe (k + 1) ⟨rfl, rfl, rfl, rfl, rfl, trivial⟩ ⟨E5, hlt⟩ (show _ - (k + 1) < _ - k by omega)
  · refine Sx.cf rfl (decide_eq_false (by omega)) ?_
    refine wp_exit ?_
    refine Sx.eT ?_
    refine Sx.eT ?_
    refine Sx.eB ?_
    refine Sx.nT ?_
    refine Sx.seq ?_
    refine Sx.reg ?_
    refine Sx.sv (r_mv rfl) rfl (wnt0 rfl) ?_
    refine Sx.sv (r_as rfl) rfl (wnt0 rfl) ?_
    refine Sx.sv (r_as rfl) rfl (wnt0 rfl) ?_
    refine wnil ?_
    refine Sx.nT ?_
    refine wp_ret ?_
    obtain rfl : k = ws.length := by omega
    exact Sx.ret2 Tryd.results16 rfl rfl ⟨rfl, E.toB0⟩
/-- A severity: its level, worth, audience and score. -/
def rt4 (wo au : Int) : T4 := ⟨lvl (wo * au), wo, au, wo * au⟩
def aud (pb : Bool) (n : Int) : Int := if pb then 100 else 1 + n
set_option maxRecDepth 100000 in
set_option maxHeartbeats 4000000 in
theorem rate_yes (x : Rt) (v : Vr) (ws : List Int) (A : Option Addr) (cA : Nat) (c : Int) (n : Int) (pb : Bool) (w : World) (h : RL w 0 x v) (hl : Row w 0 1 A ws.length (zv ws)) (hok : Rok x) (hc : 0 ≤ c ∧ c < x.c) (hn : (ws.length : Int) = x.k) (hw : ∀ j, j < ws.length → 0 ≤ e0 ws j ∧ e0 ws j ≤ 100) (hr : 0 ≤ n ∧ n ≤ 24) (hT : Me w 0 0 TB) :
    Calls Tryd.prog 18 #[.agg (gr x v), .slice A ws.length cA, .int .i64 c, .int .i64 n, .bool pb] w fun e w' => e = .returned (.tuple #[.agg (v4 [rt4 (smW (pwr x c) ws ws.length) (aud pb n)]).toArray, .int .i64 0]) ∧ Below w.heap.size w w' := by
  have HX := Has.rl h
  have HL := Has.row hl
  have hk24 := hok.k1
  have hsz : szs x := ⟨by have := hok.lg; omega, by have := hok.ls; omega, by have := hok.lm; omega⟩
  have hpb : ∀ i, i < ws.length → 0 ≤ e0 (pwr x c) i ∧ e0 (pwr x c) i ≤ 3 := fun i hi => pwr_b hok c (by omega)
  have h3 := smW_b hpb hw ws.length (Nat.le_refl _)
  have E : Rel (fun x => w.heap.size ≤ x) w w := Rel.refl _ _
  refine Sx.enter Tryd.func18 rfl Tryd.ntmps18 rfl (fun fr => ?_)
  refine Sx.seq ?_
  refine Sx.reg ?_
  refine Sx.sy (y_box rfl rfl) rfl (wnt0 rfl) ?_
  rintro _ w1 ⟨b1, rfl, n1, x1⟩
  have l1_hT : 0 < b1 := Nat.lt_of_lt_of_le hT.lt n1.ge
  have l1_HX : w.heap.size ≤ b1 := Nat.le_trans HX.le n1.ge
  have l1_HL : w.heap.size ≤ b1 := Nat.le_trans HL.le n1.ge
  have g1 : w.heap.size ≤ b1 := Nat.le_trans E.size n1.ge
  replace hT := hT.nw n1.r
  replace HX := HX.nw n1.r
  replace HL := HL.nw n1.r
  replace E := E.then n1.r (fun _ _ h => h.elim)
  refine Sx.sy (y_all zi47 rfl) rfl (wnt0 rfl) ?_
  rintro _ w2 ⟨b2, rfl, n2, x2⟩
  have l2_hT : 0 < b2 := Nat.lt_of_lt_of_le hT.lt n2.ge
  have l2_HX : w.heap.size ≤ b2 := Nat.le_trans HX.le n2.ge
  have l2_HL : w.heap.size ≤ b2 := Nat.le_trans HL.le n2.ge
  have l2_x1 : b1 < b2 := Nat.lt_of_lt_of_le x1.lt n2.ge
  have g2 : w.heap.size ≤ b2 := Nat.le_trans E.size n2.ge
  replace hT := hT.nw n2.r
  replace HX := HX.nw n2.r
  replace HL := HL.nw n2.r
  replace x1 := x1.nw n2.r
  replace E := E.then n2.r (fun _ _ h => h.elim)
  refine Sx.sv (r_as rfl) rfl (wnt0 rfl) ?_
  refine wnil ?_
  refine Sx.nT ?_
  refine Sx.seq ?_
  refine Sx.reg ?_
  refine Sx.sv (r_ldr ty27 rfl (x1.seg) rfl) rfl (wnt0 rfl) ?_
  refine Sx.sv (r_mv rfl) rfl (wnt0 rfl) ?_
  refine Sx.sv (r_mv rfl) rfl (wnt0 rfl) ?_
  refine Sx.sc (r_call en16 rfl) rfl (wnt0 rfl) (worth_yes x v ws A cA c _ HX.ok HL.ok hok hc hn hw) ?_
  rintro e w3 ⟨rfl, hb3⟩
  refine ⟨_, rfl, ?_⟩
  have r3 := Rel.of0 hb3
  replace hT := hT.nw r3
  replace HX := HX.nw r3
  replace HL := HL.nw r3
  replace x1 := x1.nw r3
  replace x2 := x2.nw r3
  replace E := E.then r3 (fun _ _ h => h.elim)
  generalize smW (pwr x c) ws ws.length = wo at *
  refine Sx.sv (r_mv rfl) rfl (wnt0 rfl) ?_
  refine Sx.sv (r_ex rfl rfl) rfl (wnt0 rfl) ?_
  refine Sx.sv (r_ex rfl rfl) rfl (wnt0 rfl) ?_
  refine Sx.sv (r_as rfl) rfl (wnt0 rfl) ?_
  refine Sx.sv (r_as rfl) rfl (wnt0 rfl) ?_
  refine wnil ?_
  refine Sx.nT ?_
  refine Sx.seq ?_
  refine Sx.seq ?_
  refine Sx.reg ?_
  refine Sx.sv (r_mv rfl) rfl (wnt0 rfl) ?_
  refine Sx.sv (r_ne rfl rfl) rfl (wnt0 rfl) ?_
  refine wnil ?_
  refine Sx.nT ?_
  refine Sx.cf rfl (decide_eq_false (by decide)) ?_
  refine wp_skip ?_
  refine Sx.nT ?_
  refine Sx.seq ?_
  refine Sx.seq ?_
  refine Sx.reg ?_
  refine Sx.sv (r_mv rfl) rfl (wnt0 rfl) ?_
  refine Sx.sv (r_lt rfl rfl) rfl (wnt0 rfl) ?_
  refine Sx.sv (r_mv rfl) rfl (wnt0 rfl) ?_
  refine Sx.sv (r_mv rfl) rfl (wnt1 (dj := 29) (b0 := false) rfl rfl rfl rfl (decide_eq_false (by omega)) rfl) ?_
  refine Sx.sv (r_gt rfl rfl) rfl (wnt1 (dj := 29) (b0 := false) rfl rfl rfl rfl (decide_eq_false (by omega)) rfl) ?_
  refine Sx.sv (r_pkF rfl (decide_eq_false (by omega)) rfl) rfl (wnt0 rfl) ?_
  refine wnil ?_
  refine Sx.nT ?_
  refine Sx.cf rfl (decide_eq_false (by omega)) ?_
  refine wp_skip ?_
  refine Sx.nT ?_
  refine Sx.seq ?_
  refine Sx.reg ?_
  refine Sx.sv (r_mv rfl) rfl (wnt0 rfl) ?_
  refine Sx.sv (r_add rfl rfl (by omega) (by omega)) rfl (wnt0 rfl) ?_
  refine Sx.sv (r_as rfl) rfl (wnt0 rfl) ?_
  refine wnil ?_
  refine Sx.nT ?_
  refine Sx.seq ?_
  refine Sx.seq ?_
  refine Sx.reg ?_
  refine Sx.sv (r_mv rfl) rfl (wnt0 rfl) ?_
  refine wnil ?_
  refine Sx.nT ?_
  cases pb
  · refine Sx.cf rfl (rfl) ?_
    have hm : 0 ≤ wo * (1 + n) ∧ wo * (1 + n) ≤ 7200 * 100 := mul_b h3.1 (by omega) (by omega) (by omega)
    refine wp_skip ?_
    refine Sx.nT ?_
    refine Sx.seq ?_
    refine Sx.reg ?_
    refine Sx.sv (r_mv rfl) rfl (wnt0 rfl) ?_
    refine Sx.sv (r_mv rfl) rfl (wnt0 rfl) ?_
    refine Sx.sv (r_mul rfl rfl (by omega) (by omega)) rfl (wnt0 rfl) ?_
    refine Sx.sv (r_as rfl) rfl (wnt0 rfl) ?_
    refine wnil ?_
    refine Sx.nT ?_
    refine Sx.seq ?_
    refine Sx.reg ?_
    refine Sx.sv (r_mv rfl) rfl (wnt0 rfl) ?_
    refine Sx.sc (r_call en12 rfl) rfl (wnt0 rfl) (level_any _ _ hT) ?_
    rintro e w4 ⟨rfl, rfl⟩
    refine ⟨_, rfl, ?_⟩
    refine Sx.sv (r_mv rfl) rfl (wnt0 rfl) ?_
    refine Sx.sv (r_mv rfl) rfl (wnt0 rfl) ?_
    refine Sx.sv (r_mv rfl) rfl (wnt0 rfl) ?_
    refine Sx.sv (r_bld rfl (bd47_0_1_2_3 _ _ _ _)) rfl (wnt0 rfl) ?_
    refine Sx.syu (u_stR ty47 rfl rfl rfl x2 rfl rfl) rfl (wnt0 rfl) ?_
    rintro w5 ⟨r5, z5, x5n⟩
    replace hT := hT.ch r5 (by omega)
    replace HX := HX.ch r5 (by omega)
    replace HL := HL.ch r5 (by omega)
    replace x1 := x1.ch r5 (by omega)
    replace E := E.then r5 (fun x hx (e : x = b2) => show w.heap.size ≤ x by omega)
    replace x2 := x5n; clear x5n
    refine Sx.sv (r_as rfl) rfl (wnt0 rfl) ?_
    refine wnil ?_
    refine Sx.nT ?_
    refine wp_ret ?_
    exact ret_c1 Tryd.results18 rfl ty47 rfl x2.seg rfl ⟨rfl, E.toB0⟩
  · refine Sx.ct rfl (rfl) ?_
    have hm : 0 ≤ wo * (100) ∧ wo * (100) ≤ 7200 * 100 := mul_b h3.1 (by omega) (by omega) (by omega)
    refine Sx.reg ?_
    refine Sx.sv (r_as rfl) rfl (wnt0 rfl) ?_
    refine wnil ?_
    refine Sx.nT ?_
    refine Sx.seq ?_
    refine Sx.reg ?_
    refine Sx.sv (r_mv rfl) rfl (wnt0 rfl) ?_
    refine Sx.sv (r_mv rfl) rfl (wnt0 rfl) ?_
    refine Sx.sv (r_mul rfl rfl (by omega) (by omega)) rfl (wnt0 rfl) ?_
    refine Sx.sv (r_as rfl) rfl (wnt0 rfl) ?_
    refine wnil ?_
    refine Sx.nT ?_
    refine Sx.seq ?_
    refine Sx.reg ?_
    refine Sx.sv (r_mv rfl) rfl (wnt0 rfl) ?_
    refine Sx.sc (r_call en12 rfl) rfl (wnt0 rfl) (level_any _ _ hT) ?_
    rintro e w6 ⟨rfl, rfl⟩
    refine ⟨_, rfl, ?_⟩
    refine Sx.sv (r_mv rfl) rfl (wnt0 rfl) ?_
    refine Sx.sv (r_mv rfl) rfl (wnt0 rfl) ?_
    refine Sx.sv (r_mv rfl) rfl (wnt0 rfl) ?_
    refine Sx.sv (r_bld rfl (bd47_0_1_2_3 _ _ _ _)) rfl (wnt0 rfl) ?_
    refine Sx.syu (u_stR ty47 rfl rfl rfl x2 rfl rfl) rfl (wnt0 rfl) ?_
    rintro w7 ⟨r7, z7, x7n⟩
    replace hT := hT.ch r7 (by omega)
    replace HX := HX.ch r7 (by omega)
    replace HL := HL.ch r7 (by omega)
    replace x1 := x1.ch r7 (by omega)
    replace E := E.then r7 (fun x hx (e : x = b2) => show w.heap.size ≤ x by omega)
    replace x2 := x7n; clear x7n
    refine Sx.sv (r_as rfl) rfl (wnt0 rfl) ?_
    refine wnil ?_
    refine Sx.nT ?_
    refine wp_ret ?_
    exact ret_c1 Tryd.results18 rfl ty47 rfl x2.seg rfl ⟨rfl, E.toB0⟩
end Go.Proofs.YtahggnlmabdbbaaDoor.Di
