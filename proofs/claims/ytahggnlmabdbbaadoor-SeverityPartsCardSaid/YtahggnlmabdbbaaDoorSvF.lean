import Derived.Test.YtahggnlmabdbbaaDoorSvD
import Derived.Laws.MakeOwn
namespace Go.Proofs.YtahggnlmabdbbaaDoor.Di
open Go.RowKit Go.Shelf Go.Maps
open Go.Proofs.YtahggnlmabdbbaaDoor.Tp
open Go.Proofs.YtahggnlmabdbbaaDoor.Sx
set_option linter.unusedVariables false
theorem made_rep (z : Value) (n : Nat) : madeCells #[z] n = (List.replicate n z).toArray := by
  unfold madeCells
  apply Array.ext
  · simp
  · intro i h1 h2
    simp [Nat.mod_one]
section
variable {P : Program} {w : World} {n : Nat} {fr : Fr n} {al : List (Nat × Value)} {dst : Option Nat} {ty : TypeId} {pos : String} {af : Array Edge} {g : Option (Nat × Bool)}
theorem y_mks {t e bytes k : Nat} {z : Value} {x : Operand} {i : Int} (hu : P.underlying t = some (.slice e)) (hz : (P.info? e).map (fun i => (i.zero, i.size, i.bytes)) = some (some z, 1, bytes)) (hzc : z.cells = #[z]) (hby : bytes ≤ 1000) (hx : eo n al x = some (.int .i64 i)) (hi : i = (k : Int)) (hk : k ≤ 100000) :
    Yl P (Fa fr al) ⟨dst, .makeSlice t x x, ty, pos, af, g⟩ w (fun u w' => ∃ b, u = .slice (some ⟨b, 0, none⟩) k k ∧ New w w' b ∧ Bx w' b (List.replicate k z) e) := by
  obtain ⟨j, hj, hz1, hz2, hz3⟩ := info_parts hz
  subst hi
  have hr := run_makeSlice (P := P) (w := w) t e j z hu hj hz1 .i64 .i64 (k : Int) (k : Int) (by omega) (by omega) (by rw [hz2]; omega) (by have : (j.bytes : Int) * (k : Int) ≤ 1000 * 100000 := (mul_b (by omega) (by omega) (by omega) (by omega)).2; omega) (by omega)
  rw [hzc, hz2, made_rep] at hr
  simp only [Int.toNat_natCast, Nat.mul_one] at hr
  refine .inl ⟨_, _, ?_, _, rfl, (new_alloc w _ e).1, (new_alloc w _ e).2⟩
  simp only [execOp, eo_eval hx]
  simp only [Sem.run_bind, Sem.run_pure, hr, Result.andThen_ok]
end
set_option maxRecDepth 100000 in
set_option maxHeartbeats 4000000 in
theorem leads_any (x : Rt) (v : Vr) (a b : Int) (w : World) (h : RL w 0 x v) (hok : Rok x) :
    Calls Tryd.prog 45 #[.agg (gr x v), .int .i64 a, .int .i64 b] w fun e w' => ∃ t, e = .returned (.bool t) ∧ (t = true → ∃ st, IsSt x a st ∧ st.t = b) ∧ Below w.heap.size w w' := by
  have HX := Has.rl h
  have hlg := hok.lg
  have hls := hok.ls
  have hlm := hok.lm
  have E : Rel (fun x => w.heap.size ≤ x) w w := Rel.refl _ _
  refine Sx.enter Tryd.func45 rfl Tryd.ntmps45 rfl (fun fr => ?_)
  refine Sx.seq ?_
  refine Sx.reg ?_
  refine Sx.sy (y_box rfl rfl) rfl (wnt0 rfl) ?_
  rintro _ w1 ⟨b1, rfl, n1, x1⟩
  have l1_HX : w.heap.size ≤ b1 := Nat.le_trans HX.le n1.ge
  have g1 : w.heap.size ≤ b1 := Nat.le_trans E.size n1.ge
  replace HX := HX.nw n1.r
  replace E := E.then n1.r (fun _ _ h => h.elim)
  refine Sx.sv (r_as rfl) rfl (wnt0 rfl) ?_
  refine wnil ?_
  refine Sx.nT ?_
  refine Sx.seq ?_
  refine Sx.seq ?_
  refine Sx.reg ?_
  refine Sx.sv (r_fa fo27_4 rfl) rfl (wnt0 rfl) ?_
  refine Sx.sv (r_ld ty25 rfl (x1.seg) rfl) rfl (wnt0 rfl) ?_
  refine Sx.sv (r_ln Tryd.underlying25 rfl) rfl (wnt0 rfl) ?_
  refine Sx.sv (r_mv rfl) rfl (wnt0 rfl) ?_
  refine wnil ?_
  refine Sx.nT ?_
  refine Sx.blk ?_
  have t2_HX := HX.le
  have t2_x1 := x1.lt
  refine Sx.lp (Nat) (fun k => [(16, .int .i64 (k : Int)), (15, .int .i64 (x.m.length : Int)), (14, .slice v.A3 x.m.length v.c3), (3, .pointer (some ⟨b1, 0, none⟩)), (1, .int .i64 a), (2, .int .i64 b)]) (fun k wr => Rel (fun x => w1.heap.size ≤ x) w1 wr ∧ k ≤ x.m.length) (fun k => x.m.length - k) 0 ⟨rfl, rfl, rfl, rfl, rfl, rfl, trivial⟩ ⟨Rel.refl _ _, Nat.zero_le _⟩ ?_
  rintro k fr w2 ⟨E2, hk⟩
  show Code.wp _ _ _ (Fa fr [(16, .int .i64 (k : Int)), (15, .int .i64 (x.m.length : Int)), (14, .slice v.A3 x.m.length v.c3), (3, .pointer (some ⟨b1, 0, none⟩)), (1, .int .i64 a), (2, .int .i64 b)]) _
  replace HX := HX.rel E2 (fun x h1 h2 => show ¬ (w1.heap.size ≤ x) by omega)
  replace x1 := x1.rel E2 (show ¬ (w1.heap.size ≤ b1) by omega)
  have s2_E := E.size
  replace E := E.then E2 (fun x hx (e : w1.heap.size ≤ x) => show w.heap.size ≤ x by omega)
  refine Sx.seq ?_
  refine Sx.reg ?_
  refine Sx.sv (r_lt rfl rfl) rfl (wnt0 rfl) ?_
  refine wnil ?_
  refine Sx.nT ?_
  refine Sx.seq ?_
  by_cases hlt : k < x.m.length
  · refine Sx.ct rfl (decide_eq_true (by omega)) ?_
    obtain ⟨ba, oa, hA1, -, hba, hca⟩ := HX.ok.r3.t2 hlt
    have m1 : Me _ ba (oa + k * 2) [_, _] := ⟨hba, hca.seg⟩
    by_cases hm1 : (e2 x.m k).a = a
    · by_cases hm2 : (e2 x.m k).b = b
      · refine wp_skip ?_
        refine Sx.nT ?_
        refine Sx.seq ?_
        refine Sx.blk ?_
        refine Sx.seq ?_
        refine Sx.reg ?_
        refine Sx.sv (r_ixi ix25 rfl (by first | rfl | assumption) rfl (by first | rfl | assumption) (by omega)) rfl (wnt0 rfl) ?_
        refine Sx.sv (r_ldr ty62 rfl (m1.seg) rfl) rfl (wnt0 rfl) ?_
        refine Sx.sy (y_all zi62 rfl) rfl (wnt0 rfl) ?_
        rintro _ w3 ⟨b3, rfl, n3, x3⟩
        have l3_HX : w.heap.size ≤ b3 := Nat.le_trans HX.le n3.ge
        have l3_x1 : b1 < b3 := Nat.lt_of_lt_of_le x1.lt n3.ge
        have l3_m1 : ba < b3 := Nat.lt_of_lt_of_le m1.lt n3.ge
        have g3 : w.heap.size ≤ b3 := Nat.le_trans E.size n3.ge
        have g3_E2 : w1.heap.size ≤ b3 := Nat.le_trans E2.size n3.ge
        replace HX := HX.nw n3.r
        replace x1 := x1.nw n3.r
        replace m1 := m1.nw n3.r
        replace E := E.then n3.r (fun _ _ h => h.elim)
        replace E2 := E2.then n3.r (fun _ _ h => h.elim)
        refine Sx.syu (u_stR ty62 rfl rfl rfl x3 rfl rfl) rfl (wnt0 rfl) ?_
        rintro w4 ⟨r4, z4, x4n⟩
        replace HX := HX.ch r4 (by omega)
        replace x1 := x1.ch r4 (by omega)
        replace m1 := m1.ch r4 (by omega)
        replace E := E.then r4 (fun x hx (e : x = b3) => show w.heap.size ≤ x by omega)
        replace E2 := E2.then r4 (fun x hx (e : x = b3) => show w1.heap.size ≤ x by omega)
        replace x3 := x4n; clear x4n
        refine wnil ?_
        refine Sx.nT ?_
        refine Sx.seq ?_
        refine Sx.reg ?_
        refine Sx.sv (r_fa fo62_0 rfl) rfl (wnt0 rfl) ?_
        refine Sx.sv (r_ld ty3 rfl (x3.seg) rfl) rfl (wnt0 rfl) ?_
        refine Sx.sv (r_mv rfl) rfl (wnt0 rfl) ?_
        refine Sx.sv (r_eq rfl rfl) rfl (wnt0 rfl) ?_
        refine Sx.sv (r_mv rfl) rfl (wnt0 rfl) ?_
        refine Sx.sv (r_fa fo62_1 rfl) rfl (wnt1 (dj := 24) (b0 := true) rfl rfl rfl rfl (decide_eq_true hm1) rfl) ?_
        refine Sx.sv (r_ld ty3 rfl (x3.seg) rfl) rfl (wnt1 (dj := 24) (b0 := true) rfl rfl rfl rfl (decide_eq_true hm1) rfl) ?_
        refine Sx.sv (r_mv rfl) rfl (wnt1 (dj := 24) (b0 := true) rfl rfl rfl rfl (decide_eq_true hm1) rfl) ?_
        refine Sx.sv (r_eq rfl rfl) rfl (wnt1 (dj := 24) (b0 := true) rfl rfl rfl rfl (decide_eq_true hm1) rfl) ?_
        refine Sx.sv (r_pkT rfl (decide_eq_true hm1) rfl) rfl (wnt0 rfl) ?_
        refine wnil ?_
        refine Sx.nT ?_
        refine Sx.ct rfl (decide_eq_true hm2) ?_
        refine Sx.seq ?_
        refine Sx.reg ?_
        refine Sx.sv (r_as rfl) rfl (wnt0 rfl) ?_
        refine wnil ?_
        refine Sx.nT ?_
        refine wp_ret ?_
        refine Sx.rB ?_
        refine Sx.rT ?_
        refine Sx.rT ?_
        refine Sx.rB ?_
        refine Sx.rT ?_
        exact Sx.ret1 Tryd.results45 rfl ⟨true, rfl, fun _ => ⟨⟨lkM k, (e2 x.m k).b⟩, .inl ⟨k, hlt, hm1, rfl⟩, hm2⟩, E.toB0⟩
      · refine wp_skip ?_
        refine Sx.nT ?_
        refine Sx.seq ?_
        refine Sx.blk ?_
        refine Sx.seq ?_
        refine Sx.reg ?_
        refine Sx.sv (r_ixi ix25 rfl (by first | rfl | assumption) rfl (by first | rfl | assumption) (by omega)) rfl (wnt0 rfl) ?_
        refine Sx.sv (r_ldr ty62 rfl (m1.seg) rfl) rfl (wnt0 rfl) ?_
        refine Sx.sy (y_all zi62 rfl) rfl (wnt0 rfl) ?_
        rintro _ w5 ⟨b5, rfl, n5, x5⟩
        have l5_HX : w.heap.size ≤ b5 := Nat.le_trans HX.le n5.ge
        have l5_x1 : b1 < b5 := Nat.lt_of_lt_of_le x1.lt n5.ge
        have l5_m1 : ba < b5 := Nat.lt_of_lt_of_le m1.lt n5.ge
        have g5 : w.heap.size ≤ b5 := Nat.le_trans E.size n5.ge
        have g5_E2 : w1.heap.size ≤ b5 := Nat.le_trans E2.size n5.ge
        replace HX := HX.nw n5.r
        replace x1 := x1.nw n5.r
        replace m1 := m1.nw n5.r
        replace E := E.then n5.r (fun _ _ h => h.elim)
        replace E2 := E2.then n5.r (fun _ _ h => h.elim)
        refine Sx.syu (u_stR ty62 rfl rfl rfl x5 rfl rfl) rfl (wnt0 rfl) ?_
        rintro w6 ⟨r6, z6, x6n⟩
        replace HX := HX.ch r6 (by omega)
        replace x1 := x1.ch r6 (by omega)
        replace m1 := m1.ch r6 (by omega)
        replace E := E.then r6 (fun x hx (e : x = b5) => show w.heap.size ≤ x by omega)
        replace E2 := E2.then r6 (fun x hx (e : x = b5) => show w1.heap.size ≤ x by omega)
        replace x5 := x6n; clear x6n
        refine wnil ?_
        refine Sx.nT ?_
        refine Sx.seq ?_
        refine Sx.reg ?_
        refine Sx.sv (r_fa fo62_0 rfl) rfl (wnt0 rfl) ?_
        refine Sx.sv (r_ld ty3 rfl (x5.seg) rfl) rfl (wnt0 rfl) ?_
        refine Sx.sv (r_mv rfl) rfl (wnt0 rfl) ?_
        refine Sx.sv (r_eq rfl rfl) rfl (wnt0 rfl) ?_
        refine Sx.sv (r_mv rfl) rfl (wnt0 rfl) ?_
        refine Sx.sv (r_fa fo62_1 rfl) rfl (wnt1 (dj := 24) (b0 := true) rfl rfl rfl rfl (decide_eq_true hm1) rfl) ?_
        refine Sx.sv (r_ld ty3 rfl (x5.seg) rfl) rfl (wnt1 (dj := 24) (b0 := true) rfl rfl rfl rfl (decide_eq_true hm1) rfl) ?_
        refine Sx.sv (r_mv rfl) rfl (wnt1 (dj := 24) (b0 := true) rfl rfl rfl rfl (decide_eq_true hm1) rfl) ?_
        refine Sx.sv (r_eq rfl rfl) rfl (wnt1 (dj := 24) (b0 := true) rfl rfl rfl rfl (decide_eq_true hm1) rfl) ?_
        refine Sx.sv (r_pkT rfl (decide_eq_true hm1) rfl) rfl (wnt0 rfl) ?_
        refine wnil ?_
        refine Sx.nT ?_
        refine Sx.cf rfl (decide_eq_false hm2) ?_
        refine wp_skip ?_
        refine Sx.nB ?_
        refine Sx.nT ?_
        refine Sx.reg ?_
        refine Sx.sv (r_add rfl rfl (by omega) (by omega)) rfl (wnt0 rfl) ?_
        refine Sx.sv (r_mv rfl) rfl (wnt0 rfl) ?_
        refine wnil ?_
        refine Sx.nT ?_
        exact Sx.lpe (k + 1) ⟨rfl, rfl, rfl, rfl, rfl, rfl, trivial⟩ ⟨E2, hlt⟩ (show _ - (k + 1) < _ - k by omega)
    · refine wp_skip ?_
      refine Sx.nT ?_
      refine Sx.seq ?_
      refine Sx.blk ?_
      refine Sx.seq ?_
      refine Sx.reg ?_
      refine Sx.sv (r_ixi ix25 rfl (by first | rfl | assumption) rfl (by first | rfl | assumption) (by omega)) rfl (wnt0 rfl) ?_
      refine Sx.sv (r_ldr ty62 rfl (m1.seg) rfl) rfl (wnt0 rfl) ?_
      refine Sx.sy (y_all zi62 rfl) rfl (wnt0 rfl) ?_
      rintro _ w7 ⟨b7, rfl, n7, x7⟩
      have l7_HX : w.heap.size ≤ b7 := Nat.le_trans HX.le n7.ge
      have l7_x1 : b1 < b7 := Nat.lt_of_lt_of_le x1.lt n7.ge
      have l7_m1 : ba < b7 := Nat.lt_of_lt_of_le m1.lt n7.ge
      have g7 : w.heap.size ≤ b7 := Nat.le_trans E.size n7.ge
      have g7_E2 : w1.heap.size ≤ b7 := Nat.le_trans E2.size n7.ge
      replace HX := HX.nw n7.r
      replace x1 := x1.nw n7.r
      replace m1 := m1.nw n7.r
      replace E := E.then n7.r (fun _ _ h => h.elim)
      replace E2 := E2.then n7.r (fun _ _ h => h.elim)
      refine Sx.syu (u_stR ty62 rfl rfl rfl x7 rfl rfl) rfl (wnt0 rfl) ?_
      rintro w8 ⟨r8, z8, x8n⟩
      replace HX := HX.ch r8 (by omega)
      replace x1 := x1.ch r8 (by omega)
      replace m1 := m1.ch r8 (by omega)
      replace E := E.then r8 (fun x hx (e : x = b7) => show w.heap.size ≤ x by omega)
      replace E2 := E2.then r8 (fun x hx (e : x = b7) => show w1.heap.size ≤ x by omega)
      replace x7 := x8n; clear x8n
      refine wnil ?_
      refine Sx.nT ?_
      refine Sx.seq ?_
      refine Sx.reg ?_
      refine Sx.sv (r_fa fo62_0 rfl) rfl (wnt0 rfl) ?_
      refine Sx.sv (r_ld ty3 rfl (x7.seg) rfl) rfl (wnt0 rfl) ?_
      refine Sx.sv (r_mv rfl) rfl (wnt0 rfl) ?_
      refine Sx.sv (r_eq rfl rfl) rfl (wnt0 rfl) ?_
      refine Sx.sv (r_mv rfl) rfl (wnt0 rfl) ?_
      refine Sx.sg (wntF (dj := 24) (b0 := false) rfl rfl rfl rfl (decide_eq_false hm1) rfl) rfl ?_
      refine Sx.sg (wntF (dj := 24) (b0 := false) rfl rfl rfl rfl (decide_eq_false hm1) rfl) rfl ?_
      refine Sx.sg (wntF (dj := 24) (b0 := false) rfl rfl rfl rfl (decide_eq_false hm1) rfl) rfl ?_
      refine Sx.sg (wntF (dj := 24) (b0 := false) rfl rfl rfl rfl (decide_eq_false hm1) rfl) rfl ?_
      refine Sx.sv (r_pkF rfl (decide_eq_false hm1) rfl) rfl (wnt0 rfl) ?_
      refine wnil ?_
      refine Sx.nT ?_
      refine Sx.cf rfl (rfl) ?_
      refine wp_skip ?_
      refine Sx.nB ?_
      refine Sx.nT ?_
      refine Sx.reg ?_
      refine Sx.sv (r_add rfl rfl (by omega) (by omega)) rfl (wnt0 rfl) ?_
      refine Sx.sv (r_mv rfl) rfl (wnt0 rfl) ?_
      refine wnil ?_
      refine Sx.nT ?_
      exact Sx.lpe (k + 1) ⟨rfl, rfl, rfl, rfl, rfl, rfl, trivial⟩ ⟨E2, hlt⟩ (show _ - (k + 1) < _ - k by omega)
  · refine Sx.cf rfl (decide_eq_false (by omega)) ?_
    refine wp_exit ?_
    refine Sx.eT ?_
    refine Sx.eT ?_
    refine Sx.eB ?_
    refine Sx.nT ?_
    refine Sx.seq ?_
    refine Sx.seq ?_
    refine Sx.reg ?_
    refine Sx.sv (r_fa fo27_2 rfl) rfl (wnt0 rfl) ?_
    refine Sx.sv (r_ld ty23 rfl (x1.seg) rfl) rfl (wnt0 rfl) ?_
    refine Sx.sv (r_ln Tryd.underlying23 rfl) rfl (wnt0 rfl) ?_
    refine Sx.sv (r_mv rfl) rfl (wnt0 rfl) ?_
    refine wnil ?_
    refine Sx.nT ?_
    refine Sx.blk ?_
    have t9_HX := HX.le
    have t9_x1 := x1.lt
    refine Sx.lp (Nat) (fun i => [(34, .int .i64 (i : Int)), (33, .int .i64 (x.g.length : Int)), (32, .slice v.A1 x.g.length v.c1), (3, .pointer (some ⟨b1, 0, none⟩)), (1, .int .i64 a), (2, .int .i64 b)]) (fun i wr => Rel (fun x => w2.heap.size ≤ x) w2 wr ∧ i ≤ x.g.length) (fun i => x.g.length - i) 0 ⟨rfl, rfl, rfl, rfl, rfl, rfl, trivial⟩ ⟨Rel.refl _ _, Nat.zero_le _⟩ ?_
    rintro i fr w9 ⟨E9, hi⟩
    show Code.wp _ _ _ (Fa fr [(34, .int .i64 (i : Int)), (33, .int .i64 (x.g.length : Int)), (32, .slice v.A1 x.g.length v.c1), (3, .pointer (some ⟨b1, 0, none⟩)), (1, .int .i64 a), (2, .int .i64 b)]) _
    replace HX := HX.rel E9 (fun x h1 h2 => show ¬ (w2.heap.size ≤ x) by omega)
    replace x1 := x1.rel E9 (show ¬ (w2.heap.size ≤ b1) by omega)
    have s9_E := E.size
    replace E := E.then E9 (fun x hx (e : w2.heap.size ≤ x) => show w.heap.size ≤ x by omega)
    refine Sx.seq ?_
    refine Sx.reg ?_
    refine Sx.sv (r_lt rfl rfl) rfl (wnt0 rfl) ?_
    refine wnil ?_
    refine Sx.nT ?_
    refine Sx.seq ?_
    by_cases hlt2 : i < x.g.length
    · refine Sx.ct rfl (decide_eq_true (by omega)) ?_
      obtain ⟨ba, oa, hA1, -, hba, hca⟩ := HX.ok.r1.t3 hlt2
      have m2 : Me _ ba (oa + i * 3) [_, _, _] := ⟨hba, hca.seg⟩
      by_cases hga : (e3 x.g i).a ≠ a
      · refine wp_skip ?_
        refine Sx.nT ?_
        refine Sx.seq ?_
        refine Sx.blk ?_
        refine Sx.seq ?_
        refine Sx.reg ?_
        refine Sx.sv (r_ixi ix23 rfl (by first | rfl | assumption) rfl (by first | rfl | assumption) (by omega)) rfl (wnt0 rfl) ?_
        refine Sx.sv (r_ldr ty54 rfl (m2.seg) rfl) rfl (wnt0 rfl) ?_
        refine Sx.sy (y_all zi54 rfl) rfl (wnt0 rfl) ?_
        rintro _ w10 ⟨b10, rfl, n10, x10⟩
        have l10_HX : w.heap.size ≤ b10 := Nat.le_trans HX.le n10.ge
        have l10_x1 : b1 < b10 := Nat.lt_of_lt_of_le x1.lt n10.ge
        have l10_m2 : ba < b10 := Nat.lt_of_lt_of_le m2.lt n10.ge
        have g10 : w.heap.size ≤ b10 := Nat.le_trans E.size n10.ge
        have g10_E9 : w2.heap.size ≤ b10 := Nat.le_trans E9.size n10.ge
        replace HX := HX.nw n10.r
        replace x1 := x1.nw n10.r
        replace m2 := m2.nw n10.r
        replace E := E.then n10.r (fun _ _ h => h.elim)
        replace E9 := E9.then n10.r (fun _ _ h => h.elim)
        refine Sx.syu (u_stR ty54 rfl rfl rfl x10 rfl rfl) rfl (wnt0 rfl) ?_
        rintro w11 ⟨r11, z11, x11n⟩
        replace HX := HX.ch r11 (by omega)
        replace x1 := x1.ch r11 (by omega)
        replace m2 := m2.ch r11 (by omega)
        replace E := E.then r11 (fun x hx (e : x = b10) => show w.heap.size ≤ x by omega)
        replace E9 := E9.then r11 (fun x hx (e : x = b10) => show w2.heap.size ≤ x by omega)
        replace x10 := x11n; clear x11n
        refine wnil ?_
        refine Sx.nT ?_
        refine Sx.seq ?_
        refine Sx.seq ?_
        refine Sx.reg ?_
        refine Sx.sv (r_fa fo54_0 rfl) rfl (wnt0 rfl) ?_
        refine Sx.sv (r_ld ty3 rfl (x10.seg) rfl) rfl (wnt0 rfl) ?_
        refine Sx.sv (r_mv rfl) rfl (wnt0 rfl) ?_
        refine Sx.sv (r_ne rfl rfl) rfl (wnt0 rfl) ?_
        refine wnil ?_
        refine Sx.nT ?_
        refine Sx.ct rfl (decide_eq_true hga) ?_
        refine wp_exit ?_
        refine Sx.eT ?_
        refine Sx.eB ?_
        refine Sx.nT ?_
        refine Sx.reg ?_
        refine Sx.sv (r_add rfl rfl (by omega) (by omega)) rfl (wnt0 rfl) ?_
        refine Sx.sv (r_mv rfl) rfl (wnt0 rfl) ?_
        refine wnil ?_
        refine Sx.nT ?_
        exact Sx.lpe (i + 1) ⟨rfl, rfl, rfl, rfl, rfl, rfl, trivial⟩ ⟨E9, hlt2⟩ (show _ - (i + 1) < _ - i by omega)
      · refine wp_skip ?_
        refine Sx.nT ?_
        refine Sx.seq ?_
        refine Sx.blk ?_
        refine Sx.seq ?_
        refine Sx.reg ?_
        refine Sx.sv (r_ixi ix23 rfl (by first | rfl | assumption) rfl (by first | rfl | assumption) (by omega)) rfl (wnt0 rfl) ?_
        refine Sx.sv (r_ldr ty54 rfl (m2.seg) rfl) rfl (wnt0 rfl) ?_
        refine Sx.sy (y_all zi54 rfl) rfl (wnt0 rfl) ?_
        rintro _ w12 ⟨b12, rfl, n12, x12⟩
        have l12_HX : w.heap.size ≤ b12 := Nat.le_trans HX.le n12.ge
        have l12_x1 : b1 < b12 := Nat.lt_of_lt_of_le x1.lt n12.ge
        have l12_m2 : ba < b12 := Nat.lt_of_lt_of_le m2.lt n12.ge
        have g12 : w.heap.size ≤ b12 := Nat.le_trans E.size n12.ge
        have g12_E9 : w2.heap.size ≤ b12 := Nat.le_trans E9.size n12.ge
        replace HX := HX.nw n12.r
        replace x1 := x1.nw n12.r
        replace m2 := m2.nw n12.r
        replace E := E.then n12.r (fun _ _ h => h.elim)
        replace E9 := E9.then n12.r (fun _ _ h => h.elim)
        refine Sx.syu (u_stR ty54 rfl rfl rfl x12 rfl rfl) rfl (wnt0 rfl) ?_
        rintro w13 ⟨r13, z13, x13n⟩
        replace HX := HX.ch r13 (by omega)
        replace x1 := x1.ch r13 (by omega)
        replace m2 := m2.ch r13 (by omega)
        replace E := E.then r13 (fun x hx (e : x = b12) => show w.heap.size ≤ x by omega)
        replace E9 := E9.then r13 (fun x hx (e : x = b12) => show w2.heap.size ≤ x by omega)
        replace x12 := x13n; clear x13n
        refine wnil ?_
        refine Sx.nT ?_
        refine Sx.seq ?_
        refine Sx.seq ?_
        refine Sx.reg ?_
        refine Sx.sv (r_fa fo54_0 rfl) rfl (wnt0 rfl) ?_
        refine Sx.sv (r_ld ty3 rfl (x12.seg) rfl) rfl (wnt0 rfl) ?_
        refine Sx.sv (r_mv rfl) rfl (wnt0 rfl) ?_
        refine Sx.sv (r_ne rfl rfl) rfl (wnt0 rfl) ?_
        refine wnil ?_
        refine Sx.nT ?_
        refine Sx.cf rfl (decide_eq_false hga) ?_
        refine wp_skip ?_
        refine Sx.nT ?_
        refine Sx.seq ?_
        refine Sx.reg ?_
        refine Sx.sv (r_fa fo27_3 rfl) rfl (wnt0 rfl) ?_
        refine Sx.sv (r_ld ty24 rfl (x1.seg) rfl) rfl (wnt0 rfl) ?_
        refine Sx.sv (r_ln Tryd.underlying24 rfl) rfl (wnt0 rfl) ?_
        refine Sx.sv (r_mv rfl) rfl (wnt0 rfl) ?_
        refine wnil ?_
        refine Sx.nT ?_
        refine Sx.blk ?_
        have t14_HX := HX.le
        have t14_x1 := x1.lt
        have t14_x12 := x12.lt
        refine Sx.lp (Nat) (fun j => [(45, .int .i64 (j : Int)), (44, .int .i64 (x.s.length : Int)), (43, .slice v.A2 x.s.length v.c2), (10, .pointer (some ⟨b12, 0, none⟩)), (34, .int .i64 (i : Int)), (33, .int .i64 (x.g.length : Int)), (32, .slice v.A1 x.g.length v.c1), (3, .pointer (some ⟨b1, 0, none⟩)), (1, .int .i64 a), (2, .int .i64 b)]) (fun j wr => Rel (fun x => w13.heap.size ≤ x) w13 wr ∧ j ≤ x.s.length) (fun j => x.s.length - j) 0 ⟨rfl, rfl, rfl, rfl, rfl, rfl, rfl, rfl, rfl, rfl, trivial⟩ ⟨Rel.refl _ _, Nat.zero_le _⟩ ?_
        rintro j fr w14 ⟨E14, hj⟩
        show Code.wp _ _ _ (Fa fr [(45, .int .i64 (j : Int)), (44, .int .i64 (x.s.length : Int)), (43, .slice v.A2 x.s.length v.c2), (10, .pointer (some ⟨b12, 0, none⟩)), (34, .int .i64 (i : Int)), (33, .int .i64 (x.g.length : Int)), (32, .slice v.A1 x.g.length v.c1), (3, .pointer (some ⟨b1, 0, none⟩)), (1, .int .i64 a), (2, .int .i64 b)]) _
        replace HX := HX.rel E14 (fun x h1 h2 => show ¬ (w13.heap.size ≤ x) by omega)
        replace x1 := x1.rel E14 (show ¬ (w13.heap.size ≤ b1) by omega)
        replace x12 := x12.rel E14 (show ¬ (w13.heap.size ≤ b12) by omega)
        have s14_E := E.size
        replace E := E.then E14 (fun x hx (e : w13.heap.size ≤ x) => show w.heap.size ≤ x by omega)
        have s14_E9 := E9.size
        replace E9 := E9.then E14 (fun x hx (e : w13.heap.size ≤ x) => show w2.heap.size ≤ x by omega)
        refine Sx.seq ?_
        refine Sx.reg ?_
        refine Sx.sv (r_lt rfl rfl) rfl (wnt0 rfl) ?_
        refine wnil ?_
        refine Sx.nT ?_
        refine Sx.seq ?_
        by_cases hlt3 : j < x.s.length
        · refine Sx.ct rfl (decide_eq_true (by omega)) ?_
          obtain ⟨bp, op, hA2, -, hbp, hcp⟩ := HX.ok.r2.t2 hlt3
          have m3 : Me _ bp (op + j * 2) [_, _] := ⟨hbp, hcp.seg⟩
          by_cases hs1 : (e2 x.s j).a = (e3 x.g i).b
          · by_cases hs2 : (e2 x.s j).b = b
            · refine wp_skip ?_
              refine Sx.nT ?_
              refine Sx.seq ?_
              refine Sx.blk ?_
              refine Sx.seq ?_
              refine Sx.reg ?_
              refine Sx.sv (r_ixi ix24 rfl (by first | rfl | assumption) rfl (by first | rfl | assumption) (by omega)) rfl (wnt0 rfl) ?_
              refine Sx.sv (r_ldr ty60 rfl (m3.seg) rfl) rfl (wnt0 rfl) ?_
              refine Sx.sy (y_all zi60 rfl) rfl (wnt0 rfl) ?_
              rintro _ w15 ⟨b15, rfl, n15, x15⟩
              have l15_HX : w.heap.size ≤ b15 := Nat.le_trans HX.le n15.ge
              have l15_x1 : b1 < b15 := Nat.lt_of_lt_of_le x1.lt n15.ge
              have l15_x12 : b12 < b15 := Nat.lt_of_lt_of_le x12.lt n15.ge
              have l15_m3 : bp < b15 := Nat.lt_of_lt_of_le m3.lt n15.ge
              have g15 : w.heap.size ≤ b15 := Nat.le_trans E.size n15.ge
              have g15_E9 : w2.heap.size ≤ b15 := Nat.le_trans E9.size n15.ge
              have g15_E14 : w13.heap.size ≤ b15 := Nat.le_trans E14.size n15.ge
              replace HX := HX.nw n15.r
              replace x1 := x1.nw n15.r
              replace x12 := x12.nw n15.r
              replace m3 := m3.nw n15.r
              replace E := E.then n15.r (fun _ _ h => h.elim)
              replace E9 := E9.then n15.r (fun _ _ h => h.elim)
              replace E14 := E14.then n15.r (fun _ _ h => h.elim)
              refine Sx.syu (u_stR ty60 rfl rfl rfl x15 rfl rfl) rfl (wnt0 rfl) ?_
              rintro w16 ⟨r16, z16, x16n⟩
              replace HX := HX.ch r16 (by omega)
              replace x1 := x1.ch r16 (by omega)
              replace x12 := x12.ch r16 (by omega)
              replace m3 := m3.ch r16 (by omega)
              replace E := E.then r16 (fun x hx (e : x = b15) => show w.heap.size ≤ x by omega)
              replace E9 := E9.then r16 (fun x hx (e : x = b15) => show w2.heap.size ≤ x by omega)
              replace E14 := E14.then r16 (fun x hx (e : x = b15) => show w13.heap.size ≤ x by omega)
              replace x15 := x16n; clear x16n
              refine wnil ?_
              refine Sx.nT ?_
              refine Sx.seq ?_
              refine Sx.reg ?_
              refine Sx.sv (r_fa fo60_0 rfl) rfl (wnt0 rfl) ?_
              refine Sx.sv (r_ld ty3 rfl (x15.seg) rfl) rfl (wnt0 rfl) ?_
              refine Sx.sv (r_fa fo54_1 rfl) rfl (wnt0 rfl) ?_
              refine Sx.sv (r_ld ty3 rfl (x12.seg) rfl) rfl (wnt0 rfl) ?_
              refine Sx.sv (r_eq rfl rfl) rfl (wnt0 rfl) ?_
              refine Sx.sv (r_mv rfl) rfl (wnt0 rfl) ?_
              refine Sx.sv (r_fa fo60_1 rfl) rfl (wnt1 (dj := 54) (b0 := true) rfl rfl rfl rfl (decide_eq_true hs1) rfl) ?_
              refine Sx.sv (r_ld ty3 rfl (x15.seg) rfl) rfl (wnt1 (dj := 54) (b0 := true) rfl rfl rfl rfl (decide_eq_true hs1) rfl) ?_
              refine Sx.sv (r_mv rfl) rfl (wnt1 (dj := 54) (b0 := true) rfl rfl rfl rfl (decide_eq_true hs1) rfl) ?_
              refine Sx.sv (r_eq rfl rfl) rfl (wnt1 (dj := 54) (b0 := true) rfl rfl rfl rfl (decide_eq_true hs1) rfl) ?_
              refine Sx.sv (r_pkT rfl (decide_eq_true hs1) rfl) rfl (wnt0 rfl) ?_
              refine wnil ?_
              refine Sx.nT ?_
              refine Sx.ct rfl (decide_eq_true hs2) ?_
              refine Sx.seq ?_
              refine Sx.reg ?_
              refine Sx.sv (r_as rfl) rfl (wnt0 rfl) ?_
              refine wnil ?_
              refine Sx.nT ?_
              refine wp_ret ?_
              refine Sx.rB ?_
              refine Sx.rT ?_
              refine Sx.rT ?_
              refine Sx.rB ?_
              refine Sx.rB ?_
              refine Sx.rT ?_
              refine Sx.rT ?_
              refine Sx.rB ?_
              refine Sx.rT ?_
              exact Sx.ret1 Tryd.results45 rfl ⟨true, rfl, fun _ => ⟨⟨lkS i j, (e2 x.s j).b⟩, .inr ⟨i, j, hlt2, hlt3, Decidable.of_not_not hga, hs1.symm, rfl⟩, hs2⟩, E.toB0⟩
            · refine wp_skip ?_
              refine Sx.nT ?_
              refine Sx.seq ?_
              refine Sx.blk ?_
              refine Sx.seq ?_
              refine Sx.reg ?_
              refine Sx.sv (r_ixi ix24 rfl (by first | rfl | assumption) rfl (by first | rfl | assumption) (by omega)) rfl (wnt0 rfl) ?_
              refine Sx.sv (r_ldr ty60 rfl (m3.seg) rfl) rfl (wnt0 rfl) ?_
              refine Sx.sy (y_all zi60 rfl) rfl (wnt0 rfl) ?_
              rintro _ w17 ⟨b17, rfl, n17, x17⟩
              have l17_HX : w.heap.size ≤ b17 := Nat.le_trans HX.le n17.ge
              have l17_x1 : b1 < b17 := Nat.lt_of_lt_of_le x1.lt n17.ge
              have l17_x12 : b12 < b17 := Nat.lt_of_lt_of_le x12.lt n17.ge
              have l17_m3 : bp < b17 := Nat.lt_of_lt_of_le m3.lt n17.ge
              have g17 : w.heap.size ≤ b17 := Nat.le_trans E.size n17.ge
              have g17_E9 : w2.heap.size ≤ b17 := Nat.le_trans E9.size n17.ge
              have g17_E14 : w13.heap.size ≤ b17 := Nat.le_trans E14.size n17.ge
              replace HX := HX.nw n17.r
              replace x1 := x1.nw n17.r
              replace x12 := x12.nw n17.r
              replace m3 := m3.nw n17.r
              replace E := E.then n17.r (fun _ _ h => h.elim)
              replace E9 := E9.then n17.r (fun _ _ h => h.elim)
              replace E14 := E14.then n17.r (fun _ _ h => h.elim)
              refine Sx.syu (u_stR ty60 rfl rfl rfl x17 rfl rfl) rfl (wnt0 rfl) ?_
              rintro w18 ⟨r18, z18, x18n⟩
              replace HX := HX.ch r18 (by omega)
              replace x1 := x1.ch r18 (by omega)
              replace x12 := x12.ch r18 (by omega)
              replace m3 := m3.ch r18 (by omega)
              replace E := E.then r18 (fun x hx (e : x = b17) => show w.heap.size ≤ x by omega)
              replace E9 := E9.then r18 (fun x hx (e : x = b17) => show w2.heap.size ≤ x by omega)
              replace E14 := E14.then r18 (fun x hx (e : x = b17) => show w13.heap.size ≤ x by omega)
              replace x17 := x18n; clear x18n
              refine wnil ?_
              refine Sx.nT ?_
              refine Sx.seq ?_
              refine Sx.reg ?_
              refine Sx.sv (r_fa fo60_0 rfl) rfl (wnt0 rfl) ?_
              refine Sx.sv (r_ld ty3 rfl (x17.seg) rfl) rfl (wnt0 rfl) ?_
              refine Sx.sv (r_fa fo54_1 rfl) rfl (wnt0 rfl) ?_
              refine Sx.sv (r_ld ty3 rfl (x12.seg) rfl) rfl (wnt0 rfl) ?_
              refine Sx.sv (r_eq rfl rfl) rfl (wnt0 rfl) ?_
              refine Sx.sv (r_mv rfl) rfl (wnt0 rfl) ?_
              refine Sx.sv (r_fa fo60_1 rfl) rfl (wnt1 (dj := 54) (b0 := true) rfl rfl rfl rfl (decide_eq_true hs1) rfl) ?_
              refine Sx.sv (r_ld ty3 rfl (x17.seg) rfl) rfl (wnt1 (dj := 54) (b0 := true) rfl rfl rfl rfl (decide_eq_true hs1) rfl) ?_
              refine Sx.sv (r_mv rfl) rfl (wnt1 (dj := 54) (b0 := true) rfl rfl rfl rfl (decide_eq_true hs1) rfl) ?_
              refine Sx.sv (r_eq rfl rfl) rfl (wnt1 (dj := 54) (b0 := true) rfl rfl rfl rfl (decide_eq_true hs1) rfl) ?_
              refine Sx.sv (r_pkT rfl (decide_eq_true hs1) rfl) rfl (wnt0 rfl) ?_
              refine wnil ?_
              refine Sx.nT ?_
              refine Sx.cf rfl (decide_eq_false hs2) ?_
              refine wp_skip ?_
              refine Sx.nB ?_
              refine Sx.nT ?_
              refine Sx.reg ?_
              refine Sx.sv (r_add rfl rfl (by omega) (by omega)) rfl (wnt0 rfl) ?_
              refine Sx.sv (r_mv rfl) rfl (wnt0 rfl) ?_
              refine wnil ?_
              refine Sx.nT ?_
              exact Sx.lpe (j + 1) ⟨rfl, rfl, rfl, rfl, rfl, rfl, rfl, rfl, rfl, rfl, trivial⟩ ⟨E14, hlt3⟩ (show _ - (j + 1) < _ - j by omega)
          · refine wp_skip ?_
            refine Sx.nT ?_
            refine Sx.seq ?_
            refine Sx.blk ?_
            refine Sx.seq ?_
            refine Sx.reg ?_
            refine Sx.sv (r_ixi ix24 rfl (by first | rfl | assumption) rfl (by first | rfl | assumption) (by omega)) rfl (wnt0 rfl) ?_
            refine Sx.sv (r_ldr ty60 rfl (m3.seg) rfl) rfl (wnt0 rfl) ?_
            refine Sx.sy (y_all zi60 rfl) rfl (wnt0 rfl) ?_
            rintro _ w19 ⟨b19, rfl, n19, x19⟩
            have l19_HX : w.heap.size ≤ b19 := Nat.le_trans HX.le n19.ge
            have l19_x1 : b1 < b19 := Nat.lt_of_lt_of_le x1.lt n19.ge
            have l19_x12 : b12 < b19 := Nat.lt_of_lt_of_le x12.lt n19.ge
            have l19_m3 : bp < b19 := Nat.lt_of_lt_of_le m3.lt n19.ge
            have g19 : w.heap.size ≤ b19 := Nat.le_trans E.size n19.ge
            have g19_E9 : w2.heap.size ≤ b19 := Nat.le_trans E9.size n19.ge
            have g19_E14 : w13.heap.size ≤ b19 := Nat.le_trans E14.size n19.ge
            replace HX := HX.nw n19.r
            replace x1 := x1.nw n19.r
            replace x12 := x12.nw n19.r
            replace m3 := m3.nw n19.r
            replace E := E.then n19.r (fun _ _ h => h.elim)
            replace E9 := E9.then n19.r (fun _ _ h => h.elim)
            replace E14 := E14.then n19.r (fun _ _ h => h.elim)
            refine Sx.syu (u_stR ty60 rfl rfl rfl x19 rfl rfl) rfl (wnt0 rfl) ?_
            rintro w20 ⟨r20, z20, x20n⟩
            replace HX := HX.ch r20 (by omega)
            replace x1 := x1.ch r20 (by omega)
            replace x12 := x12.ch r20 (by omega)
            replace m3 := m3.ch r20 (by omega)
            replace E := E.then r20 (fun x hx (e : x = b19) => show w.heap.size ≤ x by omega)
            replace E9 := E9.then r20 (fun x hx (e : x = b19) => show w2.heap.size ≤ x by omega)
            replace E14 := E14.then r20 (fun x hx (e : x = b19) => show w13.heap.size ≤ x by omega)
            replace x19 := x20n; clear x20n
            refine wnil ?_
            refine Sx.nT ?_
            refine Sx.seq ?_
            refine Sx.reg ?_
            refine Sx.sv (r_fa fo60_0 rfl) rfl (wnt0 rfl) ?_
            refine Sx.sv (r_ld ty3 rfl (x19.seg) rfl) rfl (wnt0 rfl) ?_
            refine Sx.sv (r_fa fo54_1 rfl) rfl (wnt0 rfl) ?_
            refine Sx.sv (r_ld ty3 rfl (x12.seg) rfl) rfl (wnt0 rfl) ?_
            refine Sx.sv (r_eq rfl rfl) rfl (wnt0 rfl) ?_
            refine Sx.sv (r_mv rfl) rfl (wnt0 rfl) ?_
            refine Sx.sg (wntF (dj := 54) (b0 := false) rfl rfl rfl rfl (decide_eq_false hs1) rfl) rfl ?_
            refine Sx.sg (wntF (dj := 54) (b0 := false) rfl rfl rfl rfl (decide_eq_false hs1) rfl) rfl ?_
            refine Sx.sg (wntF (dj := 54) (b0 := false) rfl rfl rfl rfl (decide_eq_false hs1) rfl) rfl ?_
            refine Sx.sg (wntF (dj := 54) (b0 := false) rfl rfl rfl rfl (decide_eq_false hs1) rfl) rfl ?_
            refine Sx.sv (r_pkF rfl (decide_eq_false hs1) rfl) rfl (wnt0 rfl) ?_
            refine wnil ?_
            refine Sx.nT ?_
            refine Sx.cf rfl (rfl) ?_
            refine wp_skip ?_
            refine Sx.nB ?_
            refine Sx.nT ?_
            refine Sx.reg ?_
            refine Sx.sv (r_add rfl rfl (by omega) (by omega)) rfl (wnt0 rfl) ?_
            refine Sx.sv (r_mv rfl) rfl (wnt0 rfl) ?_
            refine wnil ?_
            refine Sx.nT ?_
            exact Sx.lpe (j + 1) ⟨rfl, rfl, rfl, rfl, rfl, rfl, rfl, rfl, rfl, rfl, trivial⟩ ⟨E14, hlt3⟩ (show _ - (j + 1) < _ - j by omega)
        · refine Sx.cf rfl (decide_eq_false (by omega)) ?_
          refine wp_exit ?_
          refine Sx.eT ?_
          refine Sx.eT ?_
          refine Sx.eB ?_
          refine Sx.nB ?_
          refine Sx.nT ?_
          refine Sx.reg ?_
          refine Sx.sv (r_add rfl rfl (by omega) (by omega)) rfl (wnt0 rfl) ?_
          refine Sx.sv (r_mv rfl) rfl (wnt0 rfl) ?_
          refine wnil ?_
          refine Sx.nT ?_
          exact Sx.lpe (i + 1) ⟨rfl, rfl, rfl, rfl, rfl, rfl, trivial⟩ ⟨E9, hlt2⟩ (show _ - (i + 1) < _ - i by omega)
    · refine Sx.cf rfl (decide_eq_false (by omega)) ?_
      refine wp_exit ?_
      refine Sx.eT ?_
      refine Sx.eT ?_
      refine Sx.eB ?_
      refine Sx.nT ?_
      refine Sx.seq ?_
      refine Sx.reg ?_
      refine Sx.sv (r_as rfl) rfl (wnt0 rfl) ?_
      refine wnil ?_
      refine Sx.nT ?_
      refine wp_ret ?_
      exact Sx.ret1 Tryd.results45 rfl ⟨false, rfl, (fun h => by cases h), E.toB0⟩
end Go.Proofs.YtahggnlmabdbbaaDoor.Di
