import Derived.Test.YtahggnlmabdbbaaRtP
namespace Go.Proofs.Ytahggnlmabdbbaa.Di
open Go.RowKit Go.Shelf Go.Maps
open Go.Proofs.Ytahggnlmabdbbaa.Tp
open Go.Proofs.Ytahggnlmabdbbaa.Sx
set_option linter.unusedVariables false
theorem e4_left {l : List T4} {a : T4} {j : Nat} (h : j < l.length) : e4 (l ++ [a]) j = e4 l j := by
  unfold e4; rw [List.getD_eq_getElem?_getD, List.getD_eq_getElem?_getD, List.getElem?_append_left h]
theorem e4_end {l : List T4} {a : T4} : e4 (l ++ [a]) l.length = a := by
  unfold e4; rw [List.getD_eq_getElem?_getD, List.getElem?_append_right (Nat.le_refl _)]; simp
theorem Pth.det {x : Rt} {c : Int} {l : List T4} {y z : Int} (h : Pth x c l y) (h' : Pth x c l z) : y = z := by
  induction h generalizing z with
  | nil =>
    generalize hl : ([] : List T4) = l at h'
    cases h' with
    | nil => rfl
    | snoc _ _ => simp at hl
  | snoc h1 he ih =>
    rename_i l y e
    generalize hl : l ++ [e.l] = l2 at h'
    cases h' with
    | nil => simp at hl
    | snoc h2 he2 =>
      obtain ⟨e1, e2⟩ := List.append_inj' hl rfl
      subst e1
      obtain rfl := ih h2
      rw [IsSt.det he he2 (by simpa using e2)]
theorem stp_len (x : Rt) (y : Int) (h : Rok x) : (stp x y).length ≤ 100000 := by
  have := stG_len x y h.lm h.ls x.g.length
  have := h.lg
  unfold stp
  omega
set_option maxRecDepth 100000 in
set_option maxHeartbeats 4000000 in
theorem proves_nil (x : Rt) (v : Vr) (c r rt : Int) (w : World) (h : RL w 0 x v) (hok : Rok x) (hc : 0 ≤ c ∧ c < x.c) (hr : 0 ≤ r ∧ r < x.k) (hrt : 1 ≤ rt ∧ rt ≤ 3) :
    Calls Try.prog 19 #[.agg (gr x v), .int .i64 c, .int .i64 r, .int .i64 rt, .slice none 0 0] w fun e w' => e = .returned (.bool false) ∧ Below w.heap.size w w' := by
  have HX := Has.rl h
  have hsz : szs x := ⟨by have := hok.lg; omega, by have := hok.ls; omega, by have := hok.lm; omega⟩
  have hlg := hok.lg
  have hkc := hok.c1
  have hkk := hok.k1
  have E : Rel (fun x => w.heap.size ≤ x) w w := Rel.refl _ _
  refine Sx.enter Try.func19 rfl Try.ntmps19 rfl (fun fr => ?_)
  refine Sx.seq ?_
  refine Sx.reg ?_
  refine Sx.sy (y_box rfl rfl) rfl (wnt0 rfl) ?_
  rintro _ w1 ⟨b1, rfl, n1, x1⟩
  have g1 : w.heap.size ≤ b1 := Nat.le_trans E.size n1.ge
  replace E := E.then n1.r (fun _ _ h => h.elim)
  refine Sx.sv (r_as rfl) rfl (wnt0 rfl) ?_
  refine wnil ?_
  refine Sx.nT ?_
  refine Sx.seq ?_
  refine Sx.seq ?_
  refine Sx.reg ?_
  refine Sx.sv (r_ldr ty31 rfl (x1.seg) rfl) rfl (wnt0 rfl) ?_
  refine Sx.sv (r_mv rfl) rfl (wnt0 rfl) ?_
  refine Sx.sc (r_call en21 rfl) rfl (wnt0 rfl) (ex_yes x v c _ (HX.old E).ok hsz ⟨hok, hc⟩) ?_
  rintro e w2 ⟨rfl, hb2⟩
  refine ⟨_, rfl, ?_⟩
  have r2 := Rel.of0 hb2
  replace x1 := x1.nw r2
  replace E := E.then r2 (fun _ _ h => h.elim)
  refine Sx.sv (r_not rfl) rfl (wnt0 rfl) ?_
  refine Sx.sv (r_mv rfl) rfl (wnt0 rfl) ?_
  refine Sx.sv (r_mv rfl) rfl (wnt1 (dj := 21) (b0 := false) rfl rfl rfl rfl (rfl) rfl) ?_
  refine Sx.sv (r_fa fo31_1 rfl) rfl (wnt1 (dj := 21) (b0 := false) rfl rfl rfl rfl (rfl) rfl) ?_
  refine Sx.sv (r_ld ty3 rfl (x1.seg) rfl) rfl (wnt1 (dj := 21) (b0 := false) rfl rfl rfl rfl (rfl) rfl) ?_
  refine Sx.sc (r_call en27 rfl) rfl (wnt1 (dj := 21) (b0 := false) rfl rfl rfl rfl (rfl) rfl) (num_yes hr.1 hr.2 _) ?_
  rintro e w3 ⟨rfl, rfl⟩
  refine ⟨_, rfl, ?_⟩
  refine Sx.sv (r_not rfl) rfl (wnt1 (dj := 21) (b0 := false) rfl rfl rfl rfl (rfl) rfl) ?_
  refine Sx.sv (r_pkF rfl (rfl) rfl) rfl (wnt0 rfl) ?_
  refine Sx.sv (r_mv rfl) rfl (wnt0 rfl) ?_
  refine Sx.sv (r_mv rfl) rfl (wnt1 (dj := 28) (b0 := false) rfl rfl rfl rfl (rfl) rfl) ?_
  refine Sx.sv (r_lt rfl rfl) rfl (wnt1 (dj := 28) (b0 := false) rfl rfl rfl rfl (rfl) rfl) ?_
  refine Sx.sv (r_pkF rfl (rfl) rfl) rfl (wnt0 rfl) ?_
  refine Sx.sv (r_mv rfl) rfl (wnt0 rfl) ?_
  refine Sx.sv (r_mv rfl) rfl (wnt1 (dj := 32) (b0 := false) rfl rfl rfl rfl (decide_eq_false (by omega)) rfl) ?_
  refine Sx.sv (r_gt rfl rfl) rfl (wnt1 (dj := 32) (b0 := false) rfl rfl rfl rfl (decide_eq_false (by omega)) rfl) ?_
  refine Sx.sv (r_pkF rfl (decide_eq_false (by omega)) rfl) rfl (wnt0 rfl) ?_
  refine Sx.sv (r_mv rfl) rfl (wnt0 rfl) ?_
  refine Sx.sv (r_mv rfl) rfl (wnt1 (dj := 36) (b0 := false) rfl rfl rfl rfl (decide_eq_false (by omega)) rfl) ?_
  refine Sx.sv (r_ln Try.underlying48 rfl) rfl (wnt1 (dj := 36) (b0 := false) rfl rfl rfl rfl (decide_eq_false (by omega)) rfl) ?_
  refine Sx.sv (r_eq rfl rfl) rfl (wnt1 (dj := 36) (b0 := false) rfl rfl rfl rfl (decide_eq_false (by omega)) rfl) ?_
  refine Sx.sv (r_pkF rfl (decide_eq_false (by omega)) rfl) rfl (wnt0 rfl) ?_
  refine wnil ?_
  refine Sx.nT ?_
  refine Sx.ct rfl (decide_eq_true (by omega)) ?_
  refine Sx.seq ?_
  refine Sx.reg ?_
  refine Sx.sv (r_as rfl) rfl (wnt0 rfl) ?_
  refine wnil ?_
  refine Sx.nT ?_
  refine wp_ret ?_
  refine Sx.rT ?_
  exact Sx.ret1 Try.results19 rfl ⟨rfl, E.toB0⟩
set_option maxRecDepth 100000 in
set_option maxHeartbeats 4000000 in
theorem proves_any (x : Rt) (v : Vr) (c r rt : Int) (l : List T4) (j : Nat) (A : Option Addr) (cc : Nat) (w : World) (h : RL w 0 x v) (hok : Rok x) (hc : 0 ≤ c ∧ c < x.c) (hr : 0 ≤ r ∧ r < x.k) (hrt : 1 ≤ rt ∧ rt ≤ 3)
    (hl : Row w 0 4 A (l.length + 1) (v4 (l ++ [lkG j]))) (hcc : l.length + 1 ≤ cc) (hll : l.length ≤ 1000) (hj : j < x.g.length) (hp : Pth x c l (e3 x.g j).a) (hb : (e3 x.g j).b = r) :
    Calls Try.prog 19 #[.agg (gr x v), .int .i64 c, .int .i64 r, .int .i64 rt, .slice A (l.length + 1) cc] w fun e w' => e = .returned (.bool (decide (rt ≤ (e3 x.g j).c))) ∧ Below w.heap.size w w' := by
  have HX := Has.rl h
  have hsz : szs x := ⟨by have := hok.lg; omega, by have := hok.ls; omega, by have := hok.lm; omega⟩
  have hlg := hok.lg
  have hkc := hok.c1
  have hkk := hok.k1
  have HL := Has.row hl
  have hln : ((l.length + 1 : Nat) : Int) - 1 = (l.length : Int) := by omega
  have E : Rel (fun x => w.heap.size ≤ x) w w := Rel.refl _ _
  refine Sx.enter Try.func19 rfl Try.ntmps19 rfl (fun fr => ?_)
  refine Sx.seq ?_
  refine Sx.reg ?_
  refine Sx.sy (y_box rfl rfl) rfl (wnt0 rfl) ?_
  rintro _ w1 ⟨b1, rfl, n1, x1⟩
  have g1 : w.heap.size ≤ b1 := Nat.le_trans E.size n1.ge
  replace E := E.then n1.r (fun _ _ h => h.elim)
  refine Sx.sv (r_as rfl) rfl (wnt0 rfl) ?_
  refine wnil ?_
  refine Sx.nT ?_
  refine Sx.seq ?_
  refine Sx.seq ?_
  refine Sx.reg ?_
  refine Sx.sv (r_ldr ty31 rfl (x1.seg) rfl) rfl (wnt0 rfl) ?_
  refine Sx.sv (r_mv rfl) rfl (wnt0 rfl) ?_
  refine Sx.sc (r_call en21 rfl) rfl (wnt0 rfl) (ex_yes x v c _ (HX.old E).ok hsz ⟨hok, hc⟩) ?_
  rintro e w2 ⟨rfl, hb2⟩
  refine ⟨_, rfl, ?_⟩
  have r2 := Rel.of0 hb2
  replace x1 := x1.nw r2
  replace E := E.then r2 (fun _ _ h => h.elim)
  refine Sx.sv (r_not rfl) rfl (wnt0 rfl) ?_
  refine Sx.sv (r_mv rfl) rfl (wnt0 rfl) ?_
  refine Sx.sv (r_mv rfl) rfl (wnt1 (dj := 21) (b0 := false) rfl rfl rfl rfl (rfl) rfl) ?_
  refine Sx.sv (r_fa fo31_1 rfl) rfl (wnt1 (dj := 21) (b0 := false) rfl rfl rfl rfl (rfl) rfl) ?_
  refine Sx.sv (r_ld ty3 rfl (x1.seg) rfl) rfl (wnt1 (dj := 21) (b0 := false) rfl rfl rfl rfl (rfl) rfl) ?_
  refine Sx.sc (r_call en27 rfl) rfl (wnt1 (dj := 21) (b0 := false) rfl rfl rfl rfl (rfl) rfl) (num_yes hr.1 hr.2 _) ?_
  rintro e w3 ⟨rfl, rfl⟩
  refine ⟨_, rfl, ?_⟩
  refine Sx.sv (r_not rfl) rfl (wnt1 (dj := 21) (b0 := false) rfl rfl rfl rfl (rfl) rfl) ?_
  refine Sx.sv (r_pkF rfl (rfl) rfl) rfl (wnt0 rfl) ?_
  refine Sx.sv (r_mv rfl) rfl (wnt0 rfl) ?_
  refine Sx.sv (r_mv rfl) rfl (wnt1 (dj := 28) (b0 := false) rfl rfl rfl rfl (rfl) rfl) ?_
  refine Sx.sv (r_lt rfl rfl) rfl (wnt1 (dj := 28) (b0 := false) rfl rfl rfl rfl (rfl) rfl) ?_
  refine Sx.sv (r_pkF rfl (rfl) rfl) rfl (wnt0 rfl) ?_
  refine Sx.sv (r_mv rfl) rfl (wnt0 rfl) ?_
  refine Sx.sv (r_mv rfl) rfl (wnt1 (dj := 32) (b0 := false) rfl rfl rfl rfl (decide_eq_false (by omega)) rfl) ?_
  refine Sx.sv (r_gt rfl rfl) rfl (wnt1 (dj := 32) (b0 := false) rfl rfl rfl rfl (decide_eq_false (by omega)) rfl) ?_
  refine Sx.sv (r_pkF rfl (decide_eq_false (by omega)) rfl) rfl (wnt0 rfl) ?_
  refine Sx.sv (r_mv rfl) rfl (wnt0 rfl) ?_
  refine Sx.sv (r_mv rfl) rfl (wnt1 (dj := 36) (b0 := false) rfl rfl rfl rfl (decide_eq_false (by omega)) rfl) ?_
  refine Sx.sv (r_ln Try.underlying48 rfl) rfl (wnt1 (dj := 36) (b0 := false) rfl rfl rfl rfl (decide_eq_false (by omega)) rfl) ?_
  refine Sx.sv (r_eq rfl rfl) rfl (wnt1 (dj := 36) (b0 := false) rfl rfl rfl rfl (decide_eq_false (by omega)) rfl) ?_
  refine Sx.sv (r_pkF rfl (decide_eq_false (by omega)) rfl) rfl (wnt0 rfl) ?_
  refine wnil ?_
  refine Sx.nT ?_
  refine Sx.cf rfl (decide_eq_false (by omega)) ?_
  refine wp_skip ?_
  refine Sx.nT ?_
  refine Sx.seq ?_
  refine Sx.reg ?_
  refine Sx.sv (r_mv rfl) rfl (wnt0 rfl) ?_
  refine Sx.sv (r_ln Try.underlying48 rfl) rfl (wnt0 rfl) ?_
  refine Sx.sv (r_sub rfl rfl (by omega) (by omega)) rfl (wnt0 rfl) ?_
  refine Sx.sv (r_as rfl) rfl (wnt0 rfl) ?_
  refine wnil ?_
  refine Sx.nT ?_
  refine Sx.seq ?_
  refine Sx.seq ?_
  refine Sx.reg ?_
  refine Sx.sv (r_mv rfl) rfl (wnt0 rfl) ?_
  refine Sx.sv (r_mv rfl) rfl (wnt0 rfl) ?_
  refine Sx.sv (r_slh Try.underlying48 (by kernel_rfl : (Try.prog.info? 61).map (·.size) = some 4) rfl rfl (by first | rfl | assumption) (by omega)) rfl (wnt0 rfl) ?_
  refine Sx.sv (r_ln Try.underlying48 rfl) rfl (wnt0 rfl) ?_
  refine Sx.sv (r_mv rfl) rfl (wnt0 rfl) ?_
  refine wnil ?_
  refine Sx.nT ?_
  refine Sx.blk ?_
  refine Sx.lp (Nat × Int) (fun ⟨k, y⟩ => [(48, .int .i64 (k : Int)), (46, .slice A l.length cc), (47, .int .i64 (l.length : Int)), (1, .int .i64 y), (5, .pointer (some ⟨b1, 0, none⟩)), (4, .slice A (l.length + 1) cc), (2, .int .i64 r), (3, .int .i64 rt), (11, .int .i64 (((l.length + 1 : Nat) : Int) - 1))]) (fun ⟨k, y⟩ wr => k ≤ l.length ∧ Pth x c (l.take k) y ∧ Bx wr b1 [.int .i64 x.c, .int .i64 x.k, .slice v.A1 x.g.length v.c1, .slice v.A2 x.s.length v.c2, .slice v.A3 x.m.length v.c3] 31 ∧ Rel (fun x => w.heap.size ≤ x) w wr) (fun ⟨k, y⟩ => l.length - k) ⟨0, c⟩ ⟨rfl, rfl, rfl, rfl, rfl, rfl, rfl, rfl, rfl, trivial⟩ ⟨Nat.zero_le _, .nil, x1, E⟩ ?_
  rintro ⟨k, y⟩ fr w4 ⟨hk, hpt, x1, E⟩
  show Code.wp _ _ _ (Fa fr [(48, .int .i64 (k : Int)), (46, .slice A l.length cc), (47, .int .i64 (l.length : Int)), (1, .int .i64 y), (5, .pointer (some ⟨b1, 0, none⟩)), (4, .slice A (l.length + 1) cc), (2, .int .i64 r), (3, .int .i64 rt), (11, .int .i64 (((l.length + 1 : Nat) : Int) - 1))]) _
  refine Sx.seq ?_
  refine Sx.reg ?_
  refine Sx.sv (r_lt rfl rfl) rfl (wnt0 rfl) ?_
  refine wnil ?_
  refine Sx.nT ?_
  refine Sx.seq ?_
  by_cases hlt : k < l.length
  · refine Sx.ct rfl (decide_eq_true (by omega)) ?_
    obtain ⟨y2, e, hp2, hst, hel, hp3⟩ := hp.take k hlt
    obtain rfl : y = y2 := Pth.det hpt hp2
    have hyr := hpt.rng hok hc
    obtain ⟨b, off, hA, -, hb1, hc4⟩ := (HL.old E).ok.t4 (show k < l.length + 1 by omega)
    rw [e4_left hlt] at hc4
    have m1 : Me _ b (off + k * 4) _ := ⟨hb1, hc4.seg⟩
    refine wp_skip ?_
    refine Sx.nT ?_
    refine Sx.seq ?_
    refine Sx.blk ?_
    refine Sx.seq ?_
    refine Sx.reg ?_
    refine Sx.sv (r_ixi ix48 rfl (by first | rfl | assumption) rfl (by first | rfl | assumption) (by omega)) rfl (wnt0 rfl) ?_
    refine Sx.sv (r_ldr ty61 rfl (m1.seg) rfl) rfl (wnt0 rfl) ?_
    refine Sx.sy (y_all zi61 rfl) rfl (wnt0 rfl) ?_
    rintro _ w5 ⟨b5, rfl, n5, x5⟩
    have l5_x1 : b1 < b5 := Nat.lt_of_lt_of_le x1.lt n5.ge
    have l5_m1 : b < b5 := Nat.lt_of_lt_of_le m1.lt n5.ge
    have g5 : w.heap.size ≤ b5 := Nat.le_trans E.size n5.ge
    replace x1 := x1.nw n5.r
    replace m1 := m1.nw n5.r
    replace E := E.then n5.r (fun _ _ h => h.elim)
    refine Sx.syu (u_stR ty61 rfl rfl rfl x5 rfl rfl) rfl (wnt0 rfl) ?_
    rintro w6 ⟨r6, z6, x6n⟩
    replace x1 := x1.ch r6 (by omega)
    replace m1 := m1.ch r6 (by omega)
    replace E := E.then r6 (fun x hx (e : x = b5) => show w.heap.size ≤ x by omega)
    replace x5 := x6n; clear x6n
    refine wnil ?_
    refine Sx.nT ?_
    refine Sx.seq ?_
    refine Sx.reg ?_
    refine Sx.sv (r_ldr ty31 rfl (x1.seg) rfl) rfl (wnt0 rfl) ?_
    refine Sx.sv (r_mv rfl) rfl (wnt0 rfl) ?_
    refine Sx.sc (r_call en29 rfl) rfl (wnt0 rfl) (steps_any x v y _ (HX.old E).ok hok) ?_
    rintro e w7 ⟨As, cs, rfl, hos, hb7⟩
    refine ⟨_, rfl, ?_⟩
    have r7 := Rel.of0 hb7
    replace x1 := x1.nw r7
    replace x5 := x5.nw r7
    replace E := E.then r7 (fun _ _ h => h.elim)
    have HS := Has.row (row_of_own hos)
    have hsl := stp_len x y hok
    refine Sx.sv (r_mkf rfl rfl) rfl (wnt0 rfl) ?_
    refine Sx.sc (r_call en28 rfl) rfl (wnt0 rfl) (t_idx (stp x y) (e4 l k) b5 As cs _ (HS.ok.base (Nat.zero_le _)) (by omega) x5) ?_
    rintro e w8 ⟨hb8, (⟨rfl, hno⟩ | ⟨i, hi, rfl, hie⟩)⟩
    · exfalso
      obtain ⟨i, hi, hie⟩ := e5_of ((stp_mem x y e).2 hst)
      exact hno i hi (by rw [hie, hel])
    refine ⟨_, rfl, ?_⟩
    have r8 := Rel.of0 hb8
    replace x1 := x1.nw r8
    replace x5 := x5.nw r8
    replace HS := HS.nw r8
    replace E := E.then r8 (fun _ _ h => h.elim)
    have het : (e5 (stp x y) i) = e := IsSt.det ((stp_mem x y _).1 (e5_mem hi)) hst (by rw [hie, hel])
    refine Sx.sv (r_as rfl) rfl (wnt0 rfl) ?_
    refine wnil ?_
    refine Sx.nT ?_
    refine Sx.seq ?_
    refine Sx.seq ?_
    refine Sx.reg ?_
    refine Sx.sv (r_mv rfl) rfl (wnt0 rfl) ?_
    refine Sx.sv (r_lt rfl rfl) rfl (wnt0 rfl) ?_
    refine wnil ?_
    refine Sx.nT ?_
    refine Sx.cf rfl (decide_eq_false (by omega)) ?_
    refine wp_skip ?_
    refine Sx.nT ?_
    refine Sx.reg ?_
    refine Sx.sv (r_ldr ty31 rfl (x1.seg) rfl) rfl (wnt0 rfl) ?_
    refine Sx.sv (r_mv rfl) rfl (wnt0 rfl) ?_
    refine Sx.sc (r_call en29 rfl) rfl (wnt0 rfl) (steps_any x v y _ (HX.old E).ok hok) ?_
    rintro e w9 ⟨As2, cs2, rfl, hos2, hb9⟩
    refine ⟨_, rfl, ?_⟩
    have r9 := Rel.of0 hb9
    replace x1 := x1.nw r9
    replace x5 := x5.nw r9
    replace E := E.then r9 (fun _ _ h => h.elim)
    obtain ⟨b5, off5, hA5, -, hb5, hc5⟩ := ((row_of_own hos2).base (Nat.zero_le _)).t5 hi
    rw [het] at hc5
    have m5 : Me _ b5 (off5 + i * 5) _ := ⟨hb5, hc5.seg⟩
    refine Sx.sv (r_mv rfl) rfl (wnt0 rfl) ?_
    refine Sx.sv (r_ixi ix63 rfl (by first | rfl | assumption) rfl (by first | rfl | assumption) (by omega)) rfl (wnt0 rfl) ?_
    refine Sx.sv (r_fa fo65_1 rfl) rfl (wnt0 rfl) ?_
    refine Sx.sv (r_ld ty3 rfl (m5.seg) rfl) rfl (wnt0 rfl) ?_
    refine Sx.sv (r_as rfl) rfl (wnt0 rfl) ?_
    refine wnil ?_
    refine Sx.nB ?_
    refine Sx.nT ?_
    refine Sx.reg ?_
    refine Sx.sv (r_add rfl rfl (by omega) (by omega)) rfl (wnt0 rfl) ?_
    refine Sx.sv (r_mv rfl) rfl (wnt0 rfl) ?_
    refine wnil ?_
    refine Sx.nT ?_
    exact Sx.lpe (⟨k + 1, e.t⟩) ⟨rfl, rfl, rfl, rfl, rfl, rfl, rfl, rfl, rfl, trivial⟩ ⟨hlt, hp3, x1, E⟩ (show _ - (k + 1) < _ - k by omega)
  · refine Sx.cf rfl (decide_eq_false (by omega)) ?_
    obtain rfl : k = l.length := by omega
    rw [List.take_length] at hpt
    obtain rfl : y = (e3 x.g j).a := Pth.det hpt hp
    obtain ⟨b, off, hA, -, hb1, hc4⟩ := (HL.old E).ok.t4 (show l.length < l.length + 1 by omega)
    rw [e4_end] at hc4
    have m1 : Me _ b (off + l.length * 4) [.int .i64 3, .int .i64 (j : Int), .int .i64 (-1), .int .i64 (-1)] := ⟨hb1, hc4.seg⟩
    refine wp_exit ?_
    refine Sx.eT ?_
    refine Sx.eT ?_
    refine Sx.eB ?_
    refine Sx.nT ?_
    refine Sx.seq ?_
    refine Sx.reg ?_
    refine Sx.sv (r_mv rfl) rfl (wnt0 rfl) ?_
    refine Sx.sv (r_mv rfl) rfl (wnt0 rfl) ?_
    refine Sx.sv (r_ixi ix48 rfl (by first | rfl | assumption) rfl (by first | rfl | assumption) (by omega)) rfl (wnt0 rfl) ?_
    refine Sx.sv (r_ldr ty61 rfl (m1.seg) rfl) rfl (wnt0 rfl) ?_
    refine Sx.sy (y_all zi61 rfl) rfl (wnt0 rfl) ?_
    rintro _ w10 ⟨b10, rfl, n10, x10⟩
    have l10_x1 : b1 < b10 := Nat.lt_of_lt_of_le x1.lt n10.ge
    have l10_m1 : b < b10 := Nat.lt_of_lt_of_le m1.lt n10.ge
    have g10 : w.heap.size ≤ b10 := Nat.le_trans E.size n10.ge
    replace x1 := x1.nw n10.r
    replace m1 := m1.nw n10.r
    replace E := E.then n10.r (fun _ _ h => h.elim)
    refine Sx.syu (u_stR ty61 rfl rfl rfl x10 rfl rfl) rfl (wnt0 rfl) ?_
    rintro w11 ⟨r11, z11, x11n⟩
    replace x1 := x1.ch r11 (by omega)
    replace m1 := m1.ch r11 (by omega)
    replace E := E.then r11 (fun x hx (e : x = b10) => show w.heap.size ≤ x by omega)
    replace x10 := x11n; clear x11n
    refine wnil ?_
    refine Sx.nT ?_
    refine Sx.seq ?_
    refine Sx.seq ?_
    refine Sx.reg ?_
    refine Sx.sv (r_fa fo61_0 rfl) rfl (wnt0 rfl) ?_
    refine Sx.sv (r_ld ty3 rfl (x10.seg) rfl) rfl (wnt0 rfl) ?_
    refine Sx.sv (r_ne rfl rfl) rfl (wnt0 rfl) ?_
    refine Sx.sv (r_mv rfl) rfl (wnt0 rfl) ?_
    refine Sx.sv (r_fa fo61_1 rfl) rfl (wnt1 (dj := 74) (b0 := false) rfl rfl rfl rfl (decide_eq_false (by decide)) rfl) ?_
    refine Sx.sv (r_ld ty3 rfl (x10.seg) rfl) rfl (wnt1 (dj := 74) (b0 := false) rfl rfl rfl rfl (decide_eq_false (by decide)) rfl) ?_
    refine Sx.sv (r_fa fo31_2 rfl) rfl (wnt1 (dj := 74) (b0 := false) rfl rfl rfl rfl (decide_eq_false (by decide)) rfl) ?_
    refine Sx.sv (r_ld ty27 rfl (x1.seg) rfl) rfl (wnt1 (dj := 74) (b0 := false) rfl rfl rfl rfl (decide_eq_false (by decide)) rfl) ?_
    refine Sx.sv (r_ln Try.underlying27 rfl) rfl (wnt1 (dj := 74) (b0 := false) rfl rfl rfl rfl (decide_eq_false (by decide)) rfl) ?_
    refine Sx.sc (r_call en27 rfl) rfl (wnt1 (dj := 74) (b0 := false) rfl rfl rfl rfl (decide_eq_false (by decide)) rfl) (num_yes (show (0 : Int) ≤ (j : Int) by omega) (show (j : Int) < (x.g.length : Int) by omega) _) ?_
    rintro e w12 ⟨rfl, rfl⟩
    refine ⟨_, rfl, ?_⟩
    obtain ⟨b', off', hA', -, hb', hg3'⟩ := (HX.old E).ok.r1.t3 hj
    have m2 : Me _ b' (off' + j * 3) _ := ⟨hb', hg3'.seg⟩
    refine Sx.sv (r_not rfl) rfl (wnt1 (dj := 74) (b0 := false) rfl rfl rfl rfl (decide_eq_false (by decide)) rfl) ?_
    refine Sx.sv (r_pkF rfl (decide_eq_false (by decide)) rfl) rfl (wnt0 rfl) ?_
    refine Sx.sv (r_mv rfl) rfl (wnt0 rfl) ?_
    refine Sx.sv (r_fa fo61_2 rfl) rfl (wnt1 (dj := 83) (b0 := false) rfl rfl rfl rfl (rfl) rfl) ?_
    refine Sx.sv (r_ld ty3 rfl (x10.seg) rfl) rfl (wnt1 (dj := 83) (b0 := false) rfl rfl rfl rfl (rfl) rfl) ?_
    refine Sx.sv (r_ne rfl rfl) rfl (wnt1 (dj := 83) (b0 := false) rfl rfl rfl rfl (rfl) rfl) ?_
    refine Sx.sv (r_pkF rfl (rfl) rfl) rfl (wnt0 rfl) ?_
    refine Sx.sv (r_mv rfl) rfl (wnt0 rfl) ?_
    refine Sx.sv (r_fa fo61_3 rfl) rfl (wnt1 (dj := 88) (b0 := false) rfl rfl rfl rfl (decide_eq_false (by decide)) rfl) ?_
    refine Sx.sv (r_ld ty3 rfl (x10.seg) rfl) rfl (wnt1 (dj := 88) (b0 := false) rfl rfl rfl rfl (decide_eq_false (by decide)) rfl) ?_
    refine Sx.sv (r_ne rfl rfl) rfl (wnt1 (dj := 88) (b0 := false) rfl rfl rfl rfl (decide_eq_false (by decide)) rfl) ?_
    refine Sx.sv (r_pkF rfl (decide_eq_false (by decide)) rfl) rfl (wnt0 rfl) ?_
    refine wnil ?_
    refine Sx.nT ?_
    refine Sx.cf rfl (decide_eq_false (by decide)) ?_
    refine wp_skip ?_
    refine Sx.nT ?_
    refine Sx.seq ?_
    refine Sx.reg ?_
    refine Sx.sv (r_fa fo31_2 rfl) rfl (wnt0 rfl) ?_
    refine Sx.sv (r_ld ty27 rfl (x1.seg) rfl) rfl (wnt0 rfl) ?_
    refine Sx.sv (r_fa fo61_1 rfl) rfl (wnt0 rfl) ?_
    refine Sx.sv (r_ld ty3 rfl (x10.seg) rfl) rfl (wnt0 rfl) ?_
    refine Sx.sv (r_ixi ix27 rfl (by first | rfl | assumption) rfl (by first | rfl | assumption) (by omega)) rfl (wnt0 rfl) ?_
    refine Sx.sv (r_ldr ty43 rfl (m2.seg) rfl) rfl (wnt0 rfl) ?_
    refine Sx.sy (y_all zi43 rfl) rfl (wnt0 rfl) ?_
    rintro _ w13 ⟨b13, rfl, n13, x13⟩
    have l13_x1 : b1 < b13 := Nat.lt_of_lt_of_le x1.lt n13.ge
    have l13_x10 : b10 < b13 := Nat.lt_of_lt_of_le x10.lt n13.ge
    have l13_m2 : b' < b13 := Nat.lt_of_lt_of_le m2.lt n13.ge
    have g13 : w.heap.size ≤ b13 := Nat.le_trans E.size n13.ge
    replace x1 := x1.nw n13.r
    replace x10 := x10.nw n13.r
    replace m2 := m2.nw n13.r
    replace E := E.then n13.r (fun _ _ h => h.elim)
    refine Sx.syu (u_stR ty43 rfl rfl rfl x13 rfl rfl) rfl (wnt0 rfl) ?_
    rintro w14 ⟨r14, z14, x14n⟩
    replace x1 := x1.ch r14 (by omega)
    replace x10 := x10.ch r14 (by omega)
    replace m2 := m2.ch r14 (by omega)
    replace E := E.then r14 (fun x hx (e : x = b13) => show w.heap.size ≤ x by omega)
    replace x13 := x14n; clear x14n
    refine wnil ?_
    refine Sx.nT ?_
    refine Sx.seq ?_
    refine Sx.reg ?_
    refine Sx.sv (r_fa fo43_0 rfl) rfl (wnt0 rfl) ?_
    refine Sx.sv (r_ld ty3 rfl (x13.seg) rfl) rfl (wnt0 rfl) ?_
    refine Sx.sv (r_mv rfl) rfl (wnt0 rfl) ?_
    refine Sx.sv (r_eq rfl rfl) rfl (wnt0 rfl) ?_
    refine Sx.sv (r_mv rfl) rfl (wnt0 rfl) ?_
    refine Sx.sv (r_fa fo43_1 rfl) rfl (wnt1 (dj := 103) (b0 := true) rfl rfl rfl rfl (decide_eq_true rfl) rfl) ?_
    refine Sx.sv (r_ld ty3 rfl (x13.seg) rfl) rfl (wnt1 (dj := 103) (b0 := true) rfl rfl rfl rfl (decide_eq_true rfl) rfl) ?_
    refine Sx.sv (r_mv rfl) rfl (wnt1 (dj := 103) (b0 := true) rfl rfl rfl rfl (decide_eq_true rfl) rfl) ?_
    refine Sx.sv (r_eq rfl rfl) rfl (wnt1 (dj := 103) (b0 := true) rfl rfl rfl rfl (decide_eq_true rfl) rfl) ?_
    refine Sx.sv (r_pkT rfl (decide_eq_true rfl) rfl) rfl (wnt0 rfl) ?_
    refine Sx.sv (r_mv rfl) rfl (wnt0 rfl) ?_
    refine Sx.sv (r_fa fo43_2 rfl) rfl (wnt1 (dj := 109) (b0 := true) rfl rfl rfl rfl (decide_eq_true hb) rfl) ?_
    refine Sx.sv (r_ld ty3 rfl (x13.seg) rfl) rfl (wnt1 (dj := 109) (b0 := true) rfl rfl rfl rfl (decide_eq_true hb) rfl) ?_
    refine Sx.sv (r_mv rfl) rfl (wnt1 (dj := 109) (b0 := true) rfl rfl rfl rfl (decide_eq_true hb) rfl) ?_
    refine Sx.sv (r_ge rfl rfl) rfl (wnt1 (dj := 109) (b0 := true) rfl rfl rfl rfl (decide_eq_true hb) rfl) ?_
    refine Sx.sv (r_pkT rfl (decide_eq_true hb) rfl) rfl (wnt0 rfl) ?_
    refine Sx.sv (r_as rfl) rfl (wnt0 rfl) ?_
    refine wnil ?_
    refine Sx.nT ?_
    refine wp_ret ?_
    exact Sx.ret1 Try.results19 rfl ⟨rfl, E.toB0⟩
end Go.Proofs.Ytahggnlmabdbbaa.Di
