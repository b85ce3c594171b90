import Derived.Test.YtahggnlmabdbbaaRtK
namespace Go.Proofs.Ytahggnlmabdbbaa.Di
open Go.RowKit Go.Shelf Go.Maps
open Go.Proofs.Ytahggnlmabdbbaa.Tp
open Go.Proofs.Ytahggnlmabdbbaa.Sx
set_option linter.unusedVariables false
theorem lkM_inj {a b : Nat} (h : lkM a = lkM b) : a = b := by unfold lkM at h; injection h with _ _ _ h; omega
theorem lkS_inj {a b c d : Nat} (h : lkS a b = lkS c d) : a = c ∧ b = d := by unfold lkS at h; injection h with _ h1 h2 _; omega
theorem lk_ne {a b c : Nat} : lkM a ≠ lkS b c := by intro h; unfold lkM lkS at h; injection h with h; omega
theorem IsSt.det {x : Rt} {y : Int} {e e' : T5} (h : IsSt x y e) (h' : IsSt x y e') (hl : e.l = e'.l) : e = e' := by
  rcases h with ⟨n, _, _, rfl⟩ | ⟨i, n, _, _, _, _, rfl⟩ <;> rcases h' with ⟨n', _, _, rfl⟩ | ⟨i', n', _, _, _, _, rfl⟩
  · have := lkM_inj hl; subst this; rfl
  · exact absurd hl lk_ne
  · exact absurd hl.symm lk_ne
  · obtain ⟨h1, h2⟩ := lkS_inj hl; subst h1 h2; rfl
theorem Pth.take {x : Rt} {c : Int} {l : List T4} {z : Int} (h : Pth x c l z) : ∀ k, k < l.length → ∃ y e, Pth x c (l.take k) y ∧ IsSt x y e ∧ e.l = e4 l k ∧ Pth x c (l.take (k + 1)) e.t := by
  induction h with
  | nil => intro k hk; simp at hk
  | snoc h1 he ih =>
    rename_i l y e
    intro k hk
    by_cases e1 : k < l.length
    · obtain ⟨y', e', h2, h3, h4, h5⟩ := ih k e1
      refine ⟨y', e', by rw [List.take_append_of_le_length (by omega)]; exact h2, h3, ?_, by rw [List.take_append_of_le_length (by omega)]; exact h5⟩
      rw [h4]; unfold e4; rw [List.getD_eq_getElem?_getD, List.getD_eq_getElem?_getD, List.getElem?_append_left e1]
    · have e2 : k = l.length := by simp at hk; omega
      subst e2
      refine ⟨y, e, by rw [List.take_append_of_le_length (by omega), List.take_length]; exact h1, he, ?_, ?_⟩
      · unfold e4; rw [List.getD_eq_getElem?_getD, List.getElem?_append_right (Nat.le_refl _)]; simp
      · rw [List.take_of_length_le (by simp)]; exact h1.snoc he
theorem Pth.rng {x : Rt} (hx : Rok x) {c z : Int} {l : List T4} (h : Pth x c l z) (h0 : 0 ≤ c ∧ c < x.c) : 0 ≤ z ∧ z < x.c := Rch.rng hx ⟨l, h⟩ h0
/-- The best grant among the first n. -/
def BeI (x : Rt) (c r : Int) (n : Nat) (z : Int) : Prop := (z = -1 ∧ gt x (rB x c) r n = 0) ∨ ∃ b : Nat, z = b ∧ b < n ∧ rB x c (e3 x.g b).a = true ∧ (e3 x.g b).b = r ∧ (e3 x.g b).c = gt x (rB x c) r n
theorem BeI.skip {x : Rt} {c r : Int} {n : Nat} {z : Int} (h : BeI x c r n z) (hs : ¬ (rB x c (e3 x.g n).a = true ∧ (e3 x.g n).b = r)) : BeI x c r (n + 1) z := by
  have e : gt x (rB x c) r (n + 1) = gt x (rB x c) r n := by rw [gt, if_neg hs]
  rcases h with ⟨h1, h2⟩ | ⟨b, h1, h2, h3, h4, h5⟩
  · exact .inl ⟨h1, by rw [e, h2]⟩
  · exact .inr ⟨b, h1, by omega, h3, h4, by rw [e, h5]⟩
theorem BeI.take {x : Rt} {c r : Int} {n : Nat} {z : Int} (h : BeI x c r n z) (h1 : rB x c (e3 x.g n).a = true) (h2 : (e3 x.g n).b = r) (h3 : gt x (rB x c) r n < (e3 x.g n).c) : BeI x c r (n + 1) (n : Int) :=
  .inr ⟨n, rfl, by omega, h1, h2, by rw [gt, if_pos ⟨h1, h2⟩]; omega⟩
theorem BeI.less {x : Rt} {c r : Int} {n b : Nat} (h : BeI x c r n (b : Int)) (h3 : ¬ (e3 x.g b).c < (e3 x.g n).c) : BeI x c r (n + 1) (b : Int) := by
  rcases h with ⟨h1, _⟩ | ⟨b', h1, h2, h4, h5, h6⟩
  · omega
  · have : b' = b := by omega
    subst this
    refine .inr ⟨b', rfl, by omega, h4, h5, ?_⟩
    rw [gt]
    split
    · omega
    · exact h6
/-- What Why answers. -/
def WyPost (x : Rt) (c r : Int) (w : World) (e : Ending) (w' : World) : Prop :=
  (gt x (rB x c) r x.g.length = 0 ∧ e = .returned (.tuple #[.slice none 0 0, .bool false]) ∧ Below w.heap.size w w') ∨
  ∃ (l : List T4) (j : Nat) (A : Option Addr) (cc : Nat), e = .returned (.tuple #[.slice A (l.length + 1) cc, .bool true]) ∧ j < x.g.length ∧ Pth x c l (e3 x.g j).a ∧ (e3 x.g j).b = r ∧ (e3 x.g j).c = gt x (rB x c) r x.g.length ∧ l.length ≤ 24 ∧
    w'.ownsRow w.heap.size 61 4 (.slice A (l.length + 1) cc) (l.length + 1) (v4 (l ++ [lkG j])) ∧ Below w.heap.size w w'
theorem key24 {z : Int} (h0 : 0 ≤ z) (h1 : z < 25) : keyOf Try.prog 3 (.int .i64 z) = some (.int .i64 z) := keyOf_int_mk Try.underlying3 (WalkArith.wf_i64 (by omega))
set_option maxRecDepth 100000 in
set_option maxHeartbeats 4000000 in
theorem bound_any (x : Rt) (v : Vr) (l : List Int) (A : Option Addr) (c : Nat) (w : World) (h : RL w 0 x v) (hl : Row w 0 1 A l.length (zv l)) (hp : SetP x l) (hc : cloP x l) :
    Calls Try.prog 15 #[.agg (gr x v), .slice A l.length c] w (PwPost (pw x (inB l)) w) := by
  have HX := Has.rl h
  have HL := Has.row hl
  have hle := hp.len
  have E : Rel (fun x => w.heap.size ≤ x) w w := Rel.refl _ _
  refine Sx.enter Try.func15 rfl Try.ntmps15 rfl (fun fr => ?_)
  refine Sx.seq ?_
  refine Sx.reg ?_
  refine Sx.sy (y_box rfl rfl) rfl (wnt0 rfl) ?_
  rintro _ w1 ⟨b1, rfl, n1, x1⟩
  have g1 : w.heap.size ≤ b1 := Nat.le_trans E.size n1.ge
  replace E := E.then n1.r (fun _ _ h => h.elim)
  refine Sx.sv (r_as rfl) rfl (wnt0 rfl) ?_
  refine wnil ?_
  refine Sx.nT ?_
  refine Sx.seq ?_
  refine Sx.seq ?_
  refine Sx.reg ?_
  refine Sx.sv (r_ldr ty31 rfl (x1.seg) rfl) rfl (wnt0 rfl) ?_
  refine Sx.sv (r_mv rfl) rfl (wnt0 rfl) ?_
  refine Sx.sc (r_call en13 rfl) rfl (wnt0 rfl) (closed_any x v l A c _ (HX.old E).ok (HL.old E).ok hp) ?_
  rintro e w2 ⟨rfl, hb2⟩
  refine ⟨_, rfl, ?_⟩
  have r2 := Rel.of0 hb2
  replace x1 := x1.nw r2
  replace E := E.then r2 (fun _ _ h => h.elim)
  refine Sx.sv (r_not rfl) rfl (wnt0 rfl) ?_
  refine wnil ?_
  refine Sx.nT ?_
  refine Sx.cf rfl (by rw [cloB_yes hc]; rfl) ?_
  refine wp_skip ?_
  refine Sx.nT ?_
  refine Sx.seq ?_
  refine Sx.reg ?_
  refine Sx.sv (r_ldr ty31 rfl (x1.seg) rfl) rfl (wnt0 rfl) ?_
  refine Sx.sv (r_mv rfl) rfl (wnt0 rfl) ?_
  refine Sx.sc (r_call en25 rfl) rfl (wnt0 rfl) (greatest_any x v l A c _ (HX.old E).ok hp.ok (HL.old E).ok (by omega)) ?_
  rintro e w3 ⟨Ag, cg, rfl, hown, hb3⟩
  refine ⟨_, rfl, ?_⟩
  have hEg := E.size
  have r3 := Rel.of0 hb3
  replace x1 := x1.nw r3
  replace E := E.then r3 (fun _ _ h => h.elim)
  refine Sx.sv (r_as rfl) rfl (wnt0 rfl) ?_
  refine wnil ?_
  refine Sx.nT ?_
  refine wp_ret ?_
  refine Sx.ret1 Try.results15 rfl ⟨_, _, rfl, ?_, E.toB0⟩
  exact own_base hown hEg
set_option maxRecDepth 100000 in
set_option maxHeartbeats 4000000 in
theorem why_any (x : Rt) (v : Vr) (c r : Int) (w : World) (h : RL w 0 x v) (hok : Rok x) (hc : 0 ≤ c ∧ c < x.c) (hr : 0 ≤ r ∧ r < x.k) :
    Calls Try.prog 18 #[.agg (gr x v), .int .i64 c, .int .i64 r] w (WyPost x c r w) := by
  have HX := Has.rl h
  have hsz : szs x := ⟨by have := hok.lg; omega, by have := hok.ls; omega, by have := hok.lm; omega⟩
  have hlg := hok.lg
  have hkc := hok.c1
  have hkk := hok.k1
  have E : Rel (fun x => w.heap.size ≤ x) w w := Rel.refl _ _
  refine Sx.enter Try.func18 rfl Try.ntmps18 rfl (fun fr => ?_)
  refine Sx.seq ?_
  refine Sx.reg ?_
  refine Sx.sy (y_box rfl rfl) rfl (wnt0 rfl) ?_
  rintro _ w1 ⟨b1, rfl, n1, x1⟩
  have g1 : w.heap.size ≤ b1 := Nat.le_trans E.size n1.ge
  replace E := E.then n1.r (fun _ _ h => h.elim)
  refine Sx.sv (r_as rfl) rfl (wnt0 rfl) ?_
  refine Sx.sv (r_as rfl) rfl (wnt0 rfl) ?_
  refine wnil ?_
  refine Sx.nT ?_
  refine Sx.seq ?_
  refine Sx.seq ?_
  refine Sx.reg ?_
  refine Sx.sv (r_ldr ty31 rfl (x1.seg) rfl) rfl (wnt0 rfl) ?_
  refine Sx.sv (r_mv rfl) rfl (wnt0 rfl) ?_
  refine Sx.sc (r_call en21 rfl) rfl (wnt0 rfl) (ex_yes x v c _ (HX.old E).ok hsz ⟨hok, hc⟩) ?_
  rintro e w2 ⟨rfl, hb2⟩
  refine ⟨_, rfl, ?_⟩
  have r2 := Rel.of0 hb2
  replace x1 := x1.nw r2
  replace E := E.then r2 (fun _ _ h => h.elim)
  refine Sx.sv (r_not rfl) rfl (wnt0 rfl) ?_
  refine Sx.sv (r_mv rfl) rfl (wnt0 rfl) ?_
  refine Sx.sv (r_mv rfl) rfl (wnt1 (dj := 18) (b0 := false) rfl rfl rfl rfl (rfl) rfl) ?_
  refine Sx.sv (r_fa fo31_1 rfl) rfl (wnt1 (dj := 18) (b0 := false) rfl rfl rfl rfl (rfl) rfl) ?_
  refine Sx.sv (r_ld ty3 rfl (x1.seg) rfl) rfl (wnt1 (dj := 18) (b0 := false) rfl rfl rfl rfl (rfl) rfl) ?_
  refine Sx.sc (r_call en27 rfl) rfl (wnt1 (dj := 18) (b0 := false) rfl rfl rfl rfl (rfl) rfl) (num_yes hr.1 hr.2 _) ?_
  rintro e w3 ⟨rfl, rfl⟩
  refine ⟨_, rfl, ?_⟩
  refine Sx.sv (r_not rfl) rfl (wnt1 (dj := 18) (b0 := false) rfl rfl rfl rfl (rfl) rfl) ?_
  refine Sx.sv (r_pkF rfl (rfl) rfl) rfl (wnt0 rfl) ?_
  refine wnil ?_
  refine Sx.nT ?_
  refine Sx.cf rfl (rfl) ?_
  refine wp_skip ?_
  refine Sx.nT ?_
  refine Sx.seq ?_
  refine Sx.reg ?_
  refine Sx.sv (r_ldr ty31 rfl (x1.seg) rfl) rfl (wnt0 rfl) ?_
  refine Sx.sv (r_mv rfl) rfl (wnt0 rfl) ?_
  refine Sx.sc (r_call en24 rfl) rfl (wnt0 rfl) (chains_any x v c _ (HX.old E).ok hok hc) ?_
  rintro e w4 ⟨bm, K, C, D, hs, rfl, hbm, hown, hmp, hbf, hrows, hb4⟩
  refine ⟨_, rfl, ?_⟩
  have hEm := E.size
  have r4 := Rel.of0 hb4
  replace x1 := x1.nw r4
  replace E := E.then r4 (fun _ _ h => h.elim)
  refine Sx.sv (r_as rfl) rfl (wnt0 rfl) ?_
  refine wnil ?_
  refine Sx.nT ?_
  refine Sx.seq ?_
  refine Sx.reg ?_
  refine Sx.sv (r_as rfl) rfl (wnt0 rfl) ?_
  refine wnil ?_
  refine Sx.nT ?_
  refine Sx.seq ?_
  refine Sx.seq ?_
  refine Sx.reg ?_
  refine Sx.sv (r_fa fo31_2 rfl) rfl (wnt0 rfl) ?_
  refine Sx.sv (r_ld ty27 rfl (x1.seg) rfl) rfl (wnt0 rfl) ?_
  refine Sx.sv (r_ln Try.underlying27 rfl) rfl (wnt0 rfl) ?_
  refine Sx.sv (r_mv rfl) rfl (wnt0 rfl) ?_
  refine wnil ?_
  refine Sx.nT ?_
  refine Sx.blk ?_
  have E2 : Rel (fun x => w4.heap.size ≤ x) w4 w4 := Rel.refl _ _
  have lbm := hown.lt
  have lx1 := x1.lt
  have lE := E.size
  refine Sx.lp (Nat × Int) (fun ⟨k, z⟩ => [(31, .int .i64 (k : Int)), (29, .slice v.A1 x.g.length v.c1), (30, .int .i64 (x.g.length : Int)), (9, .int .i64 z), (8, .map (some bm)), (3, .pointer (some ⟨b1, 0, none⟩)), (2, .int .i64 r)]) (fun ⟨k, z⟩ wr => k ≤ x.g.length ∧ BeI x c r k z ∧ Bx wr b1 [.int .i64 x.c, .int .i64 x.k, .slice v.A1 x.g.length v.c1, .slice v.A2 x.s.length v.c2, .slice v.A3 x.m.length v.c3] 31 ∧ Rel (fun x => w4.heap.size ≤ x) w4 wr) (fun ⟨k, z⟩ => x.g.length - k) ⟨0, -1⟩ ⟨rfl, rfl, rfl, rfl, rfl, rfl, rfl, trivial⟩ ⟨Nat.zero_le _, .inl ⟨rfl, rfl⟩, x1, E2⟩ ?_
  rintro ⟨k, z⟩ fr w5 ⟨hk, hbe, x1, E2⟩
  show Code.wp _ _ _ (Fa fr [(31, .int .i64 (k : Int)), (29, .slice v.A1 x.g.length v.c1), (30, .int .i64 (x.g.length : Int)), (9, .int .i64 z), (8, .map (some bm)), (3, .pointer (some ⟨b1, 0, none⟩)), (2, .int .i64 r)]) _
  refine Sx.seq ?_
  refine Sx.reg ?_
  refine Sx.sv (r_lt rfl rfl) rfl (wnt0 rfl) ?_
  refine wnil ?_
  refine Sx.nT ?_
  refine Sx.seq ?_
  by_cases hlt : k < x.g.length
  · refine Sx.ct rfl (decide_eq_true (by omega)) ?_
    obtain ⟨b, off, hA, -, hb, hg3⟩ := (HX.old (E.then E2 (fun x _ h => Nat.le_trans lE h))).ok.r1.t3 hlt
    have m1 : Me _ b (off + k * 3) _ := ⟨hb, hg3.seg⟩
    have hgo := hok.g k hlt
    obtain ⟨hgo1, hgo2, hgo3, hgo4, hgo5, hgo6⟩ := hgo
    refine wp_skip ?_
    refine Sx.nT ?_
    refine Sx.seq ?_
    refine Sx.blk ?_
    refine Sx.seq ?_
    refine Sx.reg ?_
    refine Sx.sv (r_mv rfl) rfl (wnt0 rfl) ?_
    refine Sx.sv (r_ixi ix27 rfl (by first | rfl | assumption) rfl (by first | rfl | assumption) (by omega)) rfl (wnt0 rfl) ?_
    refine Sx.sv (r_ldr ty43 rfl (m1.seg) rfl) rfl (wnt0 rfl) ?_
    refine Sx.sy (y_all zi43 rfl) rfl (wnt0 rfl) ?_
    rintro _ w6 ⟨b6, rfl, n6, x6⟩
    have l6_x1 : b1 < b6 := Nat.lt_of_lt_of_le x1.lt n6.ge
    have l6_m1 : b < b6 := Nat.lt_of_lt_of_le m1.lt n6.ge
    have g6 : w4.heap.size ≤ b6 := Nat.le_trans E2.size n6.ge
    replace x1 := x1.nw n6.r
    replace m1 := m1.nw n6.r
    replace E2 := E2.then n6.r (fun _ _ h => h.elim)
    refine Sx.sv (r_as rfl) rfl (wnt0 rfl) ?_
    refine Sx.syu (u_stR ty43 rfl rfl rfl x6 rfl rfl) rfl (wnt0 rfl) ?_
    rintro w7 ⟨r7, z7, x7n⟩
    replace x1 := x1.ch r7 (by omega)
    replace m1 := m1.ch r7 (by omega)
    replace E2 := E2.then r7 (fun x hx (e : x = b6) => show w4.heap.size ≤ x by omega)
    replace x6 := x7n; clear x7n
    refine wnil ?_
    refine Sx.nT ?_
    refine Sx.seq ?_
    refine Sx.reg ?_
    refine Sx.sv (r_mv rfl) rfl (wnt0 rfl) ?_
    refine Sx.sv (r_fa fo43_0 rfl) rfl (wnt0 rfl) ?_
    refine Sx.sv (r_ld ty3 rfl (x6.seg) rfl) rfl (wnt0 rfl) ?_
    have hown2 := map_rel hown E2 (show ¬ (_ ≤ _) by omega)
    obtain ⟨vv, ps, hlk, -⟩ := hown2.look_ok law3 Try.underlying57 (Try.zeroValue48 _) (zd := .held (.slice none 0 0)) (zp := []) rfl (key := .int .i64 (e3 x.g k).a) (kl := .int .i64 (e3 x.g k).a) (key24 (by omega) (by omega))
    rw [hmp.has] at hlk
    have hrB : decide ((e3 x.g k).a ∈ K) = rB x c (e3 x.g k).a := by rw [Bool.eq_iff_iff, rB_iff, decide_eq_true_iff]; exact hbf.done rfl _
    rw [hrB] at hlk
    refine Sx.sv (r_lk rfl rfl hlk) rfl (wnt0 rfl) ?_
    refine Sx.sv (r_mv rfl) rfl (wnt0 rfl) ?_
    refine Sx.sv (r_ex rfl rfl) rfl (wnt0 rfl) ?_
    refine Sx.sv (r_ex rfl rfl) rfl (wnt0 rfl) ?_
    refine Sx.sv (r_as rfl) rfl (wnt0 rfl) ?_
    refine Sx.sv (r_as rfl) rfl (wnt0 rfl) ?_
    refine wnil ?_
    refine Sx.nT ?_
    refine Sx.seq ?_
    by_cases hb1 : rB x c (e3 x.g k).a = true
    · by_cases hb2 : (e3 x.g k).b = r
      · by_cases hz : z = -1
        · refine Sx.drg 22 (fun w8 wv => Rel (fun x => False) w8 wv) mx (fun w8 hd => ?_)
          replace x1 := x1.nw hd
          replace x6 := x6.nw hd
          replace E2 := E2.then hd (fun _ _ h => h.elim)
          have q_x1 := x1.lt
          have q_x6 := x6.lt
          have d_x1 := x1
          have d_x6 := x6
          have hS : Rel (fun x => False) w8 w8 := Rel.refl _ _
          refine Sx.dt (i := 0) rfl (by kernel_rfl) (by kernel_rfl) (by kernel_rfl) (by kernel_rfl) (fun _ _ _ _ h => h) rfl (wnt0 rfl) (fun wv h2 => r_mv rfl) hS ?_
          refine Sx.dt (i := 1) rfl (by kernel_rfl) (by kernel_rfl) (by kernel_rfl) (by kernel_rfl) (fun _ _ _ _ h => h) rfl (wnt0 rfl) (fun wv h2 => r_mv rfl) hS ?_
          refine Sx.dt (i := 2) rfl (by kernel_rfl) (by kernel_rfl) (by kernel_rfl) (by kernel_rfl) (fun _ _ _ _ h => h) rfl (wnt1 (dj := 44) (b0 := true) rfl rfl rfl rfl (hb1) rfl) (fun wv h2 => r_fa fo43_1 rfl) hS ?_
          refine Sx.dt (i := 4) rfl (by kernel_rfl) (by kernel_rfl) (by kernel_rfl) (by kernel_rfl) (fun _ _ _ _ h => h) rfl (wnt1 (dj := 44) (b0 := true) rfl rfl rfl rfl (hb1) rfl) (fun wv h2 => r_mv rfl) hS ?_
          refine Sx.dt (i := 3) rfl (by kernel_rfl) (by kernel_rfl) (by kernel_rfl) (by kernel_rfl) (fun _ _ _ _ h => h) rfl (wnt1 (dj := 44) (b0 := true) rfl rfl rfl rfl (hb1) rfl) (fun wv h2 => r_ld ty3 rfl ((d_x6.rel h2 (show ¬ (False) from id)).seg) rfl) hS ?_
          refine Sx.dt (i := 5) rfl (by kernel_rfl) (by kernel_rfl) (by kernel_rfl) (by kernel_rfl) (fun _ _ _ _ h => h) rfl (wnt1 (dj := 44) (b0 := true) rfl rfl rfl rfl (hb1) rfl) (fun wv h2 => r_eq rfl rfl) hS ?_
          refine Sx.dt (i := 6) rfl (by kernel_rfl) (by kernel_rfl) (by kernel_rfl) (by kernel_rfl) (fun _ _ _ _ h => h) rfl (wnt0 rfl) (fun wv h2 => r_pkT rfl (hb1) rfl) hS ?_
          refine Sx.dt (i := 7) rfl (by kernel_rfl) (by kernel_rfl) (by kernel_rfl) (by kernel_rfl) (fun _ _ _ _ h => h) rfl (wnt0 rfl) (fun wv h2 => r_mv rfl) hS ?_
          refine Sx.dt (i := 8) rfl (by kernel_rfl) (by kernel_rfl) (by kernel_rfl) (by kernel_rfl) (fun _ _ _ _ h => h) rfl (wnt1 (dj := 50) (b0 := true) rfl rfl rfl rfl (decide_eq_true hb2) rfl) (fun wv h2 => r_mv rfl) hS ?_
          refine Sx.dt (i := 9) rfl (by kernel_rfl) (by kernel_rfl) (by kernel_rfl) (by kernel_rfl) (fun _ _ _ _ h => h) rfl (wnt1 (dj := 50) (b0 := true) rfl rfl rfl rfl (decide_eq_true hb2) rfl) (fun wv h2 => r_eq rfl rfl) hS ?_
          refine Sx.dt (i := 10) rfl (by kernel_rfl) (by kernel_rfl) (by kernel_rfl) (by kernel_rfl) (fun _ _ _ _ h => h) rfl (wnt1 (dj := 50) (b0 := true) rfl rfl rfl rfl (decide_eq_true hb2) rfl) (fun wv h2 => r_mv rfl) hS ?_
          refine Sx.dp (i := 11) rfl (by kernel_rfl) (by kernel_rfl) (by kernel_rfl) (by kernel_rfl) (fun _ _ _ _ h => h) rfl (wntF (dj := 53) (b0 := true) rfl rfl rfl rfl (decide_eq_true hz) rfl) hS ?_
          refine Sx.dp (i := 13) rfl (by kernel_rfl) (by kernel_rfl) (by kernel_rfl) (by kernel_rfl) (fun _ _ _ _ h => h) rfl (wntF (dj := 53) (b0 := true) rfl rfl rfl rfl (decide_eq_true hz) rfl) hS ?_
          refine Sx.dp (i := 15) rfl (by kernel_rfl) (by kernel_rfl) (by kernel_rfl) (by kernel_rfl) (fun _ _ _ _ h => h) rfl (wntF (dj := 53) (b0 := true) rfl rfl rfl rfl (decide_eq_true hz) rfl) hS ?_
          refine Sx.dp (i := 12) rfl (by kernel_rfl) (by kernel_rfl) (by kernel_rfl) (by kernel_rfl) (fun _ _ _ _ h => h) rfl (wntF (dj := 53) (b0 := true) rfl rfl rfl rfl (decide_eq_true hz) rfl) hS ?_
          refine Sx.dp (i := 14) rfl (by kernel_rfl) (by kernel_rfl) (by kernel_rfl) (by kernel_rfl) (fun _ _ _ _ h => h) rfl (wntF (dj := 53) (b0 := true) rfl rfl rfl rfl (decide_eq_true hz) rfl) hS ?_
          refine Sx.dp (i := 16) rfl (by kernel_rfl) (by kernel_rfl) (by kernel_rfl) (by kernel_rfl) (fun _ _ _ _ h => h) rfl (wntF (dj := 53) (b0 := true) rfl rfl rfl rfl (decide_eq_true hz) rfl) hS ?_
          refine Sx.dp (i := 17) rfl (by kernel_rfl) (by kernel_rfl) (by kernel_rfl) (by kernel_rfl) (fun _ _ _ _ h => h) rfl (wntF (dj := 53) (b0 := true) rfl rfl rfl rfl (decide_eq_true hz) rfl) hS ?_
          refine Sx.dp (i := 18) rfl (by kernel_rfl) (by kernel_rfl) (by kernel_rfl) (by kernel_rfl) (fun _ _ _ _ h => h) rfl (wntF (dj := 53) (b0 := true) rfl rfl rfl rfl (decide_eq_true hz) rfl) hS ?_
          refine Sx.dp (i := 19) rfl (by kernel_rfl) (by kernel_rfl) (by kernel_rfl) (by kernel_rfl) (fun _ _ _ _ h => h) rfl (wntF (dj := 53) (b0 := true) rfl rfl rfl rfl (decide_eq_true hz) rfl) hS ?_
          refine Sx.dt (i := 20) rfl (by kernel_rfl) (by kernel_rfl) (by kernel_rfl) (by kernel_rfl) (fun _ _ _ _ h => h) rfl (wnt1 (dj := 50) (b0 := true) rfl rfl rfl rfl (decide_eq_true hb2) rfl) (fun wv h2 => r_pkT rfl (decide_eq_true hz) rfl) hS ?_
          refine Sx.dt (i := 21) rfl (by kernel_rfl) (by kernel_rfl) (by kernel_rfl) (by kernel_rfl) (fun _ _ _ _ h => h) rfl (wnt0 rfl) (fun wv h2 => r_pkT rfl (decide_eq_true hb2) rfl) hS ?_
          refine Sx.dz (by kernel_rfl) ?_
          clear hS d_x1 d_x6
          refine Sx.nT ?_
          refine Sx.ct rfl (rfl) ?_
          refine Sx.reg ?_
          refine Sx.sv (r_mv rfl) rfl (wnt0 rfl) ?_
          refine Sx.sv (r_as rfl) rfl (wnt0 rfl) ?_
          refine wnil ?_
          refine Sx.nB ?_
          refine Sx.nT ?_
          refine Sx.reg ?_
          refine Sx.sv (r_add rfl rfl (by omega) (by omega)) rfl (wnt0 rfl) ?_
          refine Sx.sv (r_mv rfl) rfl (wnt0 rfl) ?_
          refine wnil ?_
          refine Sx.nT ?_
          exact Sx.lpe (⟨k + 1, k⟩) ⟨rfl, rfl, rfl, rfl, rfl, rfl, rfl, trivial⟩ ⟨hlt, hbe.take hb1 hb2 (by rcases hbe with ⟨_, h⟩ | ⟨b, h, _⟩; omega; omega), x1, E2⟩ (show _ - (k + 1) < _ - k by omega)
        · obtain ⟨bq, hzb, hbq, hq1, hq2, hq3⟩ : ∃ bq : Nat, z = bq ∧ bq < k ∧ rB x c (e3 x.g bq).a = true ∧ (e3 x.g bq).b = r ∧ (e3 x.g bq).c = gt x (rB x c) r k := hbe.resolve_left (fun h => hz h.1)
          subst hzb
          obtain ⟨b', off', hA', -, hb', hg3'⟩ := (HX.old (E.then E2 (fun x _ h => Nat.le_trans lE h))).ok.r1.t3 (show bq < x.g.length by omega)
          have m2 : Me _ b' (off' + bq * 3) _ := ⟨hb', hg3'.seg⟩
          by_cases hg : (e3 x.g bq).c < (e3 x.g k).c
          · refine Sx.drg 22 (fun w9 wv => Rel (fun x => False) w9 wv) mx (fun w9 hd => ?_)
            replace x1 := x1.nw hd
            replace x6 := x6.nw hd
            replace m2 := m2.nw hd
            replace E2 := E2.then hd (fun _ _ h => h.elim)
            have q_x1 := x1.lt
            have q_x6 := x6.lt
            have q_m2 := m2.lt
            have d_x1 := x1
            have d_x6 := x6
            have d_m2 := m2
            have hS : Rel (fun x => False) w9 w9 := Rel.refl _ _
            refine Sx.dt (i := 0) rfl (by kernel_rfl) (by kernel_rfl) (by kernel_rfl) (by kernel_rfl) (fun _ _ _ _ h => h) rfl (wnt0 rfl) (fun wv h2 => r_mv rfl) hS ?_
            refine Sx.dt (i := 1) rfl (by kernel_rfl) (by kernel_rfl) (by kernel_rfl) (by kernel_rfl) (fun _ _ _ _ h => h) rfl (wnt0 rfl) (fun wv h2 => r_mv rfl) hS ?_
            refine Sx.dt (i := 2) rfl (by kernel_rfl) (by kernel_rfl) (by kernel_rfl) (by kernel_rfl) (fun _ _ _ _ h => h) rfl (wnt1 (dj := 44) (b0 := true) rfl rfl rfl rfl (hb1) rfl) (fun wv h2 => r_fa fo43_1 rfl) hS ?_
            refine Sx.dt (i := 4) rfl (by kernel_rfl) (by kernel_rfl) (by kernel_rfl) (by kernel_rfl) (fun _ _ _ _ h => h) rfl (wnt1 (dj := 44) (b0 := true) rfl rfl rfl rfl (hb1) rfl) (fun wv h2 => r_mv rfl) hS ?_
            refine Sx.dt (i := 3) rfl (by kernel_rfl) (by kernel_rfl) (by kernel_rfl) (by kernel_rfl) (fun _ _ _ _ h => h) rfl (wnt1 (dj := 44) (b0 := true) rfl rfl rfl rfl (hb1) rfl) (fun wv h2 => r_ld ty3 rfl ((d_x6.rel h2 (show ¬ (False) from id)).seg) rfl) hS ?_
            refine Sx.dt (i := 5) rfl (by kernel_rfl) (by kernel_rfl) (by kernel_rfl) (by kernel_rfl) (fun _ _ _ _ h => h) rfl (wnt1 (dj := 44) (b0 := true) rfl rfl rfl rfl (hb1) rfl) (fun wv h2 => r_eq rfl rfl) hS ?_
            refine Sx.dt (i := 6) rfl (by kernel_rfl) (by kernel_rfl) (by kernel_rfl) (by kernel_rfl) (fun _ _ _ _ h => h) rfl (wnt0 rfl) (fun wv h2 => r_pkT rfl (hb1) rfl) hS ?_
            refine Sx.dt (i := 7) rfl (by kernel_rfl) (by kernel_rfl) (by kernel_rfl) (by kernel_rfl) (fun _ _ _ _ h => h) rfl (wnt0 rfl) (fun wv h2 => r_mv rfl) hS ?_
            refine Sx.dt (i := 8) rfl (by kernel_rfl) (by kernel_rfl) (by kernel_rfl) (by kernel_rfl) (fun _ _ _ _ h => h) rfl (wnt1 (dj := 50) (b0 := true) rfl rfl rfl rfl (decide_eq_true hb2) rfl) (fun wv h2 => r_mv rfl) hS ?_
            refine Sx.dt (i := 9) rfl (by kernel_rfl) (by kernel_rfl) (by kernel_rfl) (by kernel_rfl) (fun _ _ _ _ h => h) rfl (wnt1 (dj := 50) (b0 := true) rfl rfl rfl rfl (decide_eq_true hb2) rfl) (fun wv h2 => r_eq rfl rfl) hS ?_
            refine Sx.dt (i := 10) rfl (by kernel_rfl) (by kernel_rfl) (by kernel_rfl) (by kernel_rfl) (fun _ _ _ _ h => h) rfl (wnt1 (dj := 50) (b0 := true) rfl rfl rfl rfl (decide_eq_true hb2) rfl) (fun wv h2 => r_mv rfl) hS ?_
            refine Sx.dt (i := 11) rfl (by kernel_rfl) (by kernel_rfl) (by kernel_rfl) (by kernel_rfl) (fun _ _ _ _ h => h) rfl (wnt1 (dj := 53) (b0 := false) rfl rfl rfl rfl (decide_eq_false hz) rfl) (fun wv h2 => r_fa fo43_2 rfl) hS ?_
            refine Sx.dt (i := 13) rfl (by kernel_rfl) (by kernel_rfl) (by kernel_rfl) (by kernel_rfl) (fun _ _ _ _ h => h) rfl (wnt1 (dj := 53) (b0 := false) rfl rfl rfl rfl (decide_eq_false hz) rfl) (fun wv h2 => r_fa fo31_2 rfl) hS ?_
            refine Sx.dt (i := 15) rfl (by kernel_rfl) (by kernel_rfl) (by kernel_rfl) (by kernel_rfl) (fun _ _ _ _ h => h) rfl (wnt1 (dj := 53) (b0 := false) rfl rfl rfl rfl (decide_eq_false hz) rfl) (fun wv h2 => r_mv rfl) hS ?_
            refine Sx.dt (i := 12) rfl (by kernel_rfl) (by kernel_rfl) (by kernel_rfl) (by kernel_rfl) (fun _ _ _ _ h => h) rfl (wnt1 (dj := 53) (b0 := false) rfl rfl rfl rfl (decide_eq_false hz) rfl) (fun wv h2 => r_ld ty3 rfl ((d_x6.rel h2 (show ¬ (False) from id)).seg) rfl) hS ?_
            refine Sx.dt (i := 14) rfl (by kernel_rfl) (by kernel_rfl) (by kernel_rfl) (by kernel_rfl) (fun _ _ _ _ h => h) rfl (wnt1 (dj := 53) (b0 := false) rfl rfl rfl rfl (decide_eq_false hz) rfl) (fun wv h2 => r_ld ty27 rfl ((d_x1.rel h2 (show ¬ (False) from id)).seg) rfl) hS ?_
            refine Sx.dt (i := 16) rfl (by kernel_rfl) (by kernel_rfl) (by kernel_rfl) (by kernel_rfl) (fun _ _ _ _ h => h) rfl (wnt1 (dj := 53) (b0 := false) rfl rfl rfl rfl (decide_eq_false hz) rfl) (fun wv h2 => r_ixi ix27 rfl (by first | rfl | assumption) rfl (by first | rfl | assumption) (by omega)) hS ?_
            refine Sx.dt (i := 17) rfl (by kernel_rfl) (by kernel_rfl) (by kernel_rfl) (by kernel_rfl) (fun _ _ _ _ h => h) rfl (wnt1 (dj := 53) (b0 := false) rfl rfl rfl rfl (decide_eq_false hz) rfl) (fun wv h2 => r_fa fo43_2 rfl) hS ?_
            refine Sx.dt (i := 18) rfl (by kernel_rfl) (by kernel_rfl) (by kernel_rfl) (by kernel_rfl) (fun _ _ _ _ h => h) rfl (wnt1 (dj := 53) (b0 := false) rfl rfl rfl rfl (decide_eq_false hz) rfl) (fun wv h2 => r_ld ty3 rfl ((d_m2.rel h2 (show ¬ (False) from id)).seg) rfl) hS ?_
            refine Sx.dt (i := 19) rfl (by kernel_rfl) (by kernel_rfl) (by kernel_rfl) (by kernel_rfl) (fun _ _ _ _ h => h) rfl (wnt1 (dj := 53) (b0 := false) rfl rfl rfl rfl (decide_eq_false hz) rfl) (fun wv h2 => r_gt rfl rfl) hS ?_
            refine Sx.dt (i := 20) rfl (by kernel_rfl) (by kernel_rfl) (by kernel_rfl) (by kernel_rfl) (fun _ _ _ _ h => h) rfl (wnt1 (dj := 50) (b0 := true) rfl rfl rfl rfl (decide_eq_true hb2) rfl) (fun wv h2 => r_pkF rfl (decide_eq_false hz) rfl) hS ?_
            refine Sx.dt (i := 21) rfl (by kernel_rfl) (by kernel_rfl) (by kernel_rfl) (by kernel_rfl) (fun _ _ _ _ h => h) rfl (wnt0 rfl) (fun wv h2 => r_pkT rfl (decide_eq_true hb2) rfl) hS ?_
            refine Sx.dz (by kernel_rfl) ?_
            clear hS d_x1 d_x6 d_m2
            refine Sx.nT ?_
            refine Sx.ct rfl (decide_eq_true hg) ?_
            refine Sx.reg ?_
            refine Sx.sv (r_mv rfl) rfl (wnt0 rfl) ?_
            refine Sx.sv (r_as rfl) rfl (wnt0 rfl) ?_
            refine wnil ?_
            refine Sx.nB ?_
            refine Sx.nT ?_
            refine Sx.reg ?_
            refine Sx.sv (r_add rfl rfl (by omega) (by omega)) rfl (wnt0 rfl) ?_
            refine Sx.sv (r_mv rfl) rfl (wnt0 rfl) ?_
            refine wnil ?_
            refine Sx.nT ?_
            exact Sx.lpe (⟨k + 1, k⟩) ⟨rfl, rfl, rfl, rfl, rfl, rfl, rfl, trivial⟩ ⟨hlt, hbe.take hb1 hb2 (by omega), x1, E2⟩ (show _ - (k + 1) < _ - k by omega)
          · refine Sx.drg 22 (fun w10 wv => Rel (fun x => False) w10 wv) mx (fun w10 hd => ?_)
            replace x1 := x1.nw hd
            replace x6 := x6.nw hd
            replace m2 := m2.nw hd
            replace E2 := E2.then hd (fun _ _ h => h.elim)
            have q_x1 := x1.lt
            have q_x6 := x6.lt
            have q_m2 := m2.lt
            have d_x1 := x1
            have d_x6 := x6
            have d_m2 := m2
            have hS : Rel (fun x => False) w10 w10 := Rel.refl _ _
            refine Sx.dt (i := 0) rfl (by kernel_rfl) (by kernel_rfl) (by kernel_rfl) (by kernel_rfl) (fun _ _ _ _ h => h) rfl (wnt0 rfl) (fun wv h2 => r_mv rfl) hS ?_
            refine Sx.dt (i := 1) rfl (by kernel_rfl) (by kernel_rfl) (by kernel_rfl) (by kernel_rfl) (fun _ _ _ _ h => h) rfl (wnt0 rfl) (fun wv h2 => r_mv rfl) hS ?_
            refine Sx.dt (i := 2) rfl (by kernel_rfl) (by kernel_rfl) (by kernel_rfl) (by kernel_rfl) (fun _ _ _ _ h => h) rfl (wnt1 (dj := 44) (b0 := true) rfl rfl rfl rfl (hb1) rfl) (fun wv h2 => r_fa fo43_1 rfl) hS ?_
            refine Sx.dt (i := 4) rfl (by kernel_rfl) (by kernel_rfl) (by kernel_rfl) (by kernel_rfl) (fun _ _ _ _ h => h) rfl (wnt1 (dj := 44) (b0 := true) rfl rfl rfl rfl (hb1) rfl) (fun wv h2 => r_mv rfl) hS ?_
            refine Sx.dt (i := 3) rfl (by kernel_rfl) (by kernel_rfl) (by kernel_rfl) (by kernel_rfl) (fun _ _ _ _ h => h) rfl (wnt1 (dj := 44) (b0 := true) rfl rfl rfl rfl (hb1) rfl) (fun wv h2 => r_ld ty3 rfl ((d_x6.rel h2 (show ¬ (False) from id)).seg) rfl) hS ?_
            refine Sx.dt (i := 5) rfl (by kernel_rfl) (by kernel_rfl) (by kernel_rfl) (by kernel_rfl) (fun _ _ _ _ h => h) rfl (wnt1 (dj := 44) (b0 := true) rfl rfl rfl rfl (hb1) rfl) (fun wv h2 => r_eq rfl rfl) hS ?_
            refine Sx.dt (i := 6) rfl (by kernel_rfl) (by kernel_rfl) (by kernel_rfl) (by kernel_rfl) (fun _ _ _ _ h => h) rfl (wnt0 rfl) (fun wv h2 => r_pkT rfl (hb1) rfl) hS ?_
            refine Sx.dt (i := 7) rfl (by kernel_rfl) (by kernel_rfl) (by kernel_rfl) (by kernel_rfl) (fun _ _ _ _ h => h) rfl (wnt0 rfl) (fun wv h2 => r_mv rfl) hS ?_
            refine Sx.dt (i := 8) rfl (by kernel_rfl) (by kernel_rfl) (by kernel_rfl) (by kernel_rfl) (fun _ _ _ _ h => h) rfl (wnt1 (dj := 50) (b0 := true) rfl rfl rfl rfl (decide_eq_true hb2) rfl) (fun wv h2 => r_mv rfl) hS ?_
            refine Sx.dt (i := 9) rfl (by kernel_rfl) (by kernel_rfl) (by kernel_rfl) (by kernel_rfl) (fun _ _ _ _ h => h) rfl (wnt1 (dj := 50) (b0 := true) rfl rfl rfl rfl (decide_eq_true hb2) rfl) (fun wv h2 => r_eq rfl rfl) hS ?_
            refine Sx.dt (i := 10) rfl (by kernel_rfl) (by kernel_rfl) (by kernel_rfl) (by kernel_rfl) (fun _ _ _ _ h => h) rfl (wnt1 (dj := 50) (b0 := true) rfl rfl rfl rfl (decide_eq_true hb2) rfl) (fun wv h2 => r_mv rfl) hS ?_
            refine Sx.dt (i := 11) rfl (by kernel_rfl) (by kernel_rfl) (by kernel_rfl) (by kernel_rfl) (fun _ _ _ _ h => h) rfl (wnt1 (dj := 53) (b0 := false) rfl rfl rfl rfl (decide_eq_false hz) rfl) (fun wv h2 => r_fa fo43_2 rfl) hS ?_
            refine Sx.dt (i := 13) rfl (by kernel_rfl) (by kernel_rfl) (by kernel_rfl) (by kernel_rfl) (fun _ _ _ _ h => h) rfl (wnt1 (dj := 53) (b0 := false) rfl rfl rfl rfl (decide_eq_false hz) rfl) (fun wv h2 => r_fa fo31_2 rfl) hS ?_
            refine Sx.dt (i := 15) rfl (by kernel_rfl) (by kernel_rfl) (by kernel_rfl) (by kernel_rfl) (fun _ _ _ _ h => h) rfl (wnt1 (dj := 53) (b0 := false) rfl rfl rfl rfl (decide_eq_false hz) rfl) (fun wv h2 => r_mv rfl) hS ?_
            refine Sx.dt (i := 12) rfl (by kernel_rfl) (by kernel_rfl) (by kernel_rfl) (by kernel_rfl) (fun _ _ _ _ h => h) rfl (wnt1 (dj := 53) (b0 := false) rfl rfl rfl rfl (decide_eq_false hz) rfl) (fun wv h2 => r_ld ty3 rfl ((d_x6.rel h2 (show ¬ (False) from id)).seg) rfl) hS ?_
            refine Sx.dt (i := 14) rfl (by kernel_rfl) (by kernel_rfl) (by kernel_rfl) (by kernel_rfl) (fun _ _ _ _ h => h) rfl (wnt1 (dj := 53) (b0 := false) rfl rfl rfl rfl (decide_eq_false hz) rfl) (fun wv h2 => r_ld ty27 rfl ((d_x1.rel h2 (show ¬ (False) from id)).seg) rfl) hS ?_
            refine Sx.dt (i := 16) rfl (by kernel_rfl) (by kernel_rfl) (by kernel_rfl) (by kernel_rfl) (fun _ _ _ _ h => h) rfl (wnt1 (dj := 53) (b0 := false) rfl rfl rfl rfl (decide_eq_false hz) rfl) (fun wv h2 => r_ixi ix27 rfl (by first | rfl | assumption) rfl (by first | rfl | assumption) (by omega)) hS ?_
            refine Sx.dt (i := 17) rfl (by kernel_rfl) (by kernel_rfl) (by kernel_rfl) (by kernel_rfl) (fun _ _ _ _ h => h) rfl (wnt1 (dj := 53) (b0 := false) rfl rfl rfl rfl (decide_eq_false hz) rfl) (fun wv h2 => r_fa fo43_2 rfl) hS ?_
            refine Sx.dt (i := 18) rfl (by kernel_rfl) (by kernel_rfl) (by kernel_rfl) (by kernel_rfl) (fun _ _ _ _ h => h) rfl (wnt1 (dj := 53) (b0 := false) rfl rfl rfl rfl (decide_eq_false hz) rfl) (fun wv h2 => r_ld ty3 rfl ((d_m2.rel h2 (show ¬ (False) from id)).seg) rfl) hS ?_
            refine Sx.dt (i := 19) rfl (by kernel_rfl) (by kernel_rfl) (by kernel_rfl) (by kernel_rfl) (fun _ _ _ _ h => h) rfl (wnt1 (dj := 53) (b0 := false) rfl rfl rfl rfl (decide_eq_false hz) rfl) (fun wv h2 => r_gt rfl rfl) hS ?_
            refine Sx.dt (i := 20) rfl (by kernel_rfl) (by kernel_rfl) (by kernel_rfl) (by kernel_rfl) (fun _ _ _ _ h => h) rfl (wnt1 (dj := 50) (b0 := true) rfl rfl rfl rfl (decide_eq_true hb2) rfl) (fun wv h2 => r_pkF rfl (decide_eq_false hz) rfl) hS ?_
            refine Sx.dt (i := 21) rfl (by kernel_rfl) (by kernel_rfl) (by kernel_rfl) (by kernel_rfl) (fun _ _ _ _ h => h) rfl (wnt0 rfl) (fun wv h2 => r_pkT rfl (decide_eq_true hb2) rfl) hS ?_
            refine Sx.dz (by kernel_rfl) ?_
            clear hS d_x1 d_x6 d_m2
            refine Sx.nT ?_
            refine Sx.cf rfl (decide_eq_false hg) ?_
            refine wp_skip ?_
            refine Sx.nB ?_
            refine Sx.nT ?_
            refine Sx.reg ?_
            refine Sx.sv (r_add rfl rfl (by omega) (by omega)) rfl (wnt0 rfl) ?_
            refine Sx.sv (r_mv rfl) rfl (wnt0 rfl) ?_
            refine wnil ?_
            refine Sx.nT ?_
            exact Sx.lpe (⟨k + 1, bq⟩) ⟨rfl, rfl, rfl, rfl, rfl, rfl, rfl, trivial⟩ ⟨hlt, hbe.less hg, x1, E2⟩ (show _ - (k + 1) < _ - k by omega)
      · refine Sx.drg 22 (fun w11 wv => Rel (fun x => False) w11 wv) mx (fun w11 hd => ?_)
        replace x1 := x1.nw hd
        replace x6 := x6.nw hd
        replace E2 := E2.then hd (fun _ _ h => h.elim)
        have q_x1 := x1.lt
        have q_x6 := x6.lt
        have d_x1 := x1
        have d_x6 := x6
        have hS : Rel (fun x => False) w11 w11 := Rel.refl _ _
        refine Sx.dt (i := 0) rfl (by kernel_rfl) (by kernel_rfl) (by kernel_rfl) (by kernel_rfl) (fun _ _ _ _ h => h) rfl (wnt0 rfl) (fun wv h2 => r_mv rfl) hS ?_
        refine Sx.dt (i := 1) rfl (by kernel_rfl) (by kernel_rfl) (by kernel_rfl) (by kernel_rfl) (fun _ _ _ _ h => h) rfl (wnt0 rfl) (fun wv h2 => r_mv rfl) hS ?_
        refine Sx.dt (i := 2) rfl (by kernel_rfl) (by kernel_rfl) (by kernel_rfl) (by kernel_rfl) (fun _ _ _ _ h => h) rfl (wnt1 (dj := 44) (b0 := true) rfl rfl rfl rfl (hb1) rfl) (fun wv h2 => r_fa fo43_1 rfl) hS ?_
        refine Sx.dt (i := 4) rfl (by kernel_rfl) (by kernel_rfl) (by kernel_rfl) (by kernel_rfl) (fun _ _ _ _ h => h) rfl (wnt1 (dj := 44) (b0 := true) rfl rfl rfl rfl (hb1) rfl) (fun wv h2 => r_mv rfl) hS ?_
        refine Sx.dt (i := 3) rfl (by kernel_rfl) (by kernel_rfl) (by kernel_rfl) (by kernel_rfl) (fun _ _ _ _ h => h) rfl (wnt1 (dj := 44) (b0 := true) rfl rfl rfl rfl (hb1) rfl) (fun wv h2 => r_ld ty3 rfl ((d_x6.rel h2 (show ¬ (False) from id)).seg) rfl) hS ?_
        refine Sx.dt (i := 5) rfl (by kernel_rfl) (by kernel_rfl) (by kernel_rfl) (by kernel_rfl) (fun _ _ _ _ h => h) rfl (wnt1 (dj := 44) (b0 := true) rfl rfl rfl rfl (hb1) rfl) (fun wv h2 => r_eq rfl rfl) hS ?_
        refine Sx.dt (i := 6) rfl (by kernel_rfl) (by kernel_rfl) (by kernel_rfl) (by kernel_rfl) (fun _ _ _ _ h => h) rfl (wnt0 rfl) (fun wv h2 => r_pkT rfl (hb1) rfl) hS ?_
        refine Sx.dt (i := 7) rfl (by kernel_rfl) (by kernel_rfl) (by kernel_rfl) (by kernel_rfl) (fun _ _ _ _ h => h) rfl (wnt0 rfl) (fun wv h2 => r_mv rfl) hS ?_
        refine Sx.dp (i := 8) rfl (by kernel_rfl) (by kernel_rfl) (by kernel_rfl) (by kernel_rfl) (fun _ _ _ _ h => h) rfl (wntF (dj := 50) (b0 := false) rfl rfl rfl rfl (decide_eq_false hb2) rfl) hS ?_
        refine Sx.dp (i := 9) rfl (by kernel_rfl) (by kernel_rfl) (by kernel_rfl) (by kernel_rfl) (fun _ _ _ _ h => h) rfl (wntF (dj := 50) (b0 := false) rfl rfl rfl rfl (decide_eq_false hb2) rfl) hS ?_
        refine Sx.dp (i := 10) rfl (by kernel_rfl) (by kernel_rfl) (by kernel_rfl) (by kernel_rfl) (fun _ _ _ _ h => h) rfl (wntF (dj := 50) (b0 := false) rfl rfl rfl rfl (decide_eq_false hb2) rfl) hS ?_
        refine Sx.dp (i := 11) rfl (by kernel_rfl) (by kernel_rfl) (by kernel_rfl) (by kernel_rfl) (fun _ _ _ _ h => h) rfl (wntU (dj := 53) rfl rfl rfl rfl) hS ?_
        refine Sx.dp (i := 13) rfl (by kernel_rfl) (by kernel_rfl) (by kernel_rfl) (by kernel_rfl) (fun _ _ _ _ h => h) rfl (wntU (dj := 53) rfl rfl rfl rfl) hS ?_
        refine Sx.dp (i := 15) rfl (by kernel_rfl) (by kernel_rfl) (by kernel_rfl) (by kernel_rfl) (fun _ _ _ _ h => h) rfl (wntU (dj := 53) rfl rfl rfl rfl) hS ?_
        refine Sx.dp (i := 12) rfl (by kernel_rfl) (by kernel_rfl) (by kernel_rfl) (by kernel_rfl) (fun _ _ _ _ h => h) rfl (wntU (dj := 53) rfl rfl rfl rfl) hS ?_
        refine Sx.dp (i := 14) rfl (by kernel_rfl) (by kernel_rfl) (by kernel_rfl) (by kernel_rfl) (fun _ _ _ _ h => h) rfl (wntU (dj := 53) rfl rfl rfl rfl) hS ?_
        refine Sx.dp (i := 16) rfl (by kernel_rfl) (by kernel_rfl) (by kernel_rfl) (by kernel_rfl) (fun _ _ _ _ h => h) rfl (wntU (dj := 53) rfl rfl rfl rfl) hS ?_
        refine Sx.dp (i := 17) rfl (by kernel_rfl) (by kernel_rfl) (by kernel_rfl) (by kernel_rfl) (fun _ _ _ _ h => h) rfl (wntU (dj := 53) rfl rfl rfl rfl) hS ?_
        refine Sx.dp (i := 18) rfl (by kernel_rfl) (by kernel_rfl) (by kernel_rfl) (by kernel_rfl) (fun _ _ _ _ h => h) rfl (wntU (dj := 53) rfl rfl rfl rfl) hS ?_
        refine Sx.dp (i := 19) rfl (by kernel_rfl) (by kernel_rfl) (by kernel_rfl) (by kernel_rfl) (fun _ _ _ _ h => h) rfl (wntU (dj := 53) rfl rfl rfl rfl) hS ?_
        refine Sx.dp (i := 20) rfl (by kernel_rfl) (by kernel_rfl) (by kernel_rfl) (by kernel_rfl) (fun _ _ _ _ h => h) rfl (wntF (dj := 50) (b0 := false) rfl rfl rfl rfl (decide_eq_false hb2) rfl) hS ?_
        refine Sx.dt (i := 21) rfl (by kernel_rfl) (by kernel_rfl) (by kernel_rfl) (by kernel_rfl) (fun _ _ _ _ h => h) rfl (wnt0 rfl) (fun wv h2 => r_pkF rfl (decide_eq_false hb2) rfl) hS ?_
        refine Sx.dz (by kernel_rfl) ?_
        clear hS d_x1 d_x6
        refine Sx.nT ?_
        refine Sx.cf rfl (rfl) ?_
        refine wp_skip ?_
        refine Sx.nB ?_
        refine Sx.nT ?_
        refine Sx.reg ?_
        refine Sx.sv (r_add rfl rfl (by omega) (by omega)) rfl (wnt0 rfl) ?_
        refine Sx.sv (r_mv rfl) rfl (wnt0 rfl) ?_
        refine wnil ?_
        refine Sx.nT ?_
        exact Sx.lpe (⟨k + 1, z⟩) ⟨rfl, rfl, rfl, rfl, rfl, rfl, rfl, trivial⟩ ⟨hlt, hbe.skip (fun h => hb2 h.2), x1, E2⟩ (show _ - (k + 1) < _ - k by omega)
    · refine Sx.drg 22 (fun w12 wv => Rel (fun x => False) w12 wv) mx (fun w12 hd => ?_)
      replace x1 := x1.nw hd
      replace x6 := x6.nw hd
      replace E2 := E2.then hd (fun _ _ h => h.elim)
      have q_x1 := x1.lt
      have q_x6 := x6.lt
      have d_x1 := x1
      have d_x6 := x6
      have hS : Rel (fun x => False) w12 w12 := Rel.refl _ _
      refine Sx.dt (i := 0) rfl (by kernel_rfl) (by kernel_rfl) (by kernel_rfl) (by kernel_rfl) (fun _ _ _ _ h => h) rfl (wnt0 rfl) (fun wv h2 => r_mv rfl) hS ?_
      refine Sx.dt (i := 1) rfl (by kernel_rfl) (by kernel_rfl) (by kernel_rfl) (by kernel_rfl) (fun _ _ _ _ h => h) rfl (wnt0 rfl) (fun wv h2 => r_mv rfl) hS ?_
      refine Sx.dp (i := 2) rfl (by kernel_rfl) (by kernel_rfl) (by kernel_rfl) (by kernel_rfl) (fun _ _ _ _ h => h) rfl (wntF (dj := 44) (b0 := false) rfl rfl rfl rfl (Bool.eq_false_iff.2 hb1) rfl) hS ?_
      refine Sx.dp (i := 4) rfl (by kernel_rfl) (by kernel_rfl) (by kernel_rfl) (by kernel_rfl) (fun _ _ _ _ h => h) rfl (wntF (dj := 44) (b0 := false) rfl rfl rfl rfl (Bool.eq_false_iff.2 hb1) rfl) hS ?_
      refine Sx.dp (i := 3) rfl (by kernel_rfl) (by kernel_rfl) (by kernel_rfl) (by kernel_rfl) (fun _ _ _ _ h => h) rfl (wntF (dj := 44) (b0 := false) rfl rfl rfl rfl (Bool.eq_false_iff.2 hb1) rfl) hS ?_
      refine Sx.dp (i := 5) rfl (by kernel_rfl) (by kernel_rfl) (by kernel_rfl) (by kernel_rfl) (fun _ _ _ _ h => h) rfl (wntF (dj := 44) (b0 := false) rfl rfl rfl rfl (Bool.eq_false_iff.2 hb1) rfl) hS ?_
      refine Sx.dt (i := 6) rfl (by kernel_rfl) (by kernel_rfl) (by kernel_rfl) (by kernel_rfl) (fun _ _ _ _ h => h) rfl (wnt0 rfl) (fun wv h2 => r_pkF rfl (Bool.eq_false_iff.2 hb1) rfl) hS ?_
      refine Sx.dt (i := 7) rfl (by kernel_rfl) (by kernel_rfl) (by kernel_rfl) (by kernel_rfl) (fun _ _ _ _ h => h) rfl (wnt0 rfl) (fun wv h2 => r_mv rfl) hS ?_
      refine Sx.dp (i := 8) rfl (by kernel_rfl) (by kernel_rfl) (by kernel_rfl) (by kernel_rfl) (fun _ _ _ _ h => h) rfl (wntF (dj := 50) (b0 := false) rfl rfl rfl rfl (rfl) rfl) hS ?_
      refine Sx.dp (i := 9) rfl (by kernel_rfl) (by kernel_rfl) (by kernel_rfl) (by kernel_rfl) (fun _ _ _ _ h => h) rfl (wntF (dj := 50) (b0 := false) rfl rfl rfl rfl (rfl) rfl) hS ?_
      refine Sx.dp (i := 10) rfl (by kernel_rfl) (by kernel_rfl) (by kernel_rfl) (by kernel_rfl) (fun _ _ _ _ h => h) rfl (wntF (dj := 50) (b0 := false) rfl rfl rfl rfl (rfl) rfl) hS ?_
      refine Sx.dp (i := 11) rfl (by kernel_rfl) (by kernel_rfl) (by kernel_rfl) (by kernel_rfl) (fun _ _ _ _ h => h) rfl (wntU (dj := 53) rfl rfl rfl rfl) hS ?_
      refine Sx.dp (i := 13) rfl (by kernel_rfl) (by kernel_rfl) (by kernel_rfl) (by kernel_rfl) (fun _ _ _ _ h => h) rfl (wntU (dj := 53) rfl rfl rfl rfl) hS ?_
      refine Sx.dp (i := 15) rfl (by kernel_rfl) (by kernel_rfl) (by kernel_rfl) (by kernel_rfl) (fun _ _ _ _ h => h) rfl (wntU (dj := 53) rfl rfl rfl rfl) hS ?_
      refine Sx.dp (i := 12) rfl (by kernel_rfl) (by kernel_rfl) (by kernel_rfl) (by kernel_rfl) (fun _ _ _ _ h => h) rfl (wntU (dj := 53) rfl rfl rfl rfl) hS ?_
      refine Sx.dp (i := 14) rfl (by kernel_rfl) (by kernel_rfl) (by kernel_rfl) (by kernel_rfl) (fun _ _ _ _ h => h) rfl (wntU (dj := 53) rfl rfl rfl rfl) hS ?_
      refine Sx.dp (i := 16) rfl (by kernel_rfl) (by kernel_rfl) (by kernel_rfl) (by kernel_rfl) (fun _ _ _ _ h => h) rfl (wntU (dj := 53) rfl rfl rfl rfl) hS ?_
      refine Sx.dp (i := 17) rfl (by kernel_rfl) (by kernel_rfl) (by kernel_rfl) (by kernel_rfl) (fun _ _ _ _ h => h) rfl (wntU (dj := 53) rfl rfl rfl rfl) hS ?_
      refine Sx.dp (i := 18) rfl (by kernel_rfl) (by kernel_rfl) (by kernel_rfl) (by kernel_rfl) (fun _ _ _ _ h => h) rfl (wntU (dj := 53) rfl rfl rfl rfl) hS ?_
      refine Sx.dp (i := 19) rfl (by kernel_rfl) (by kernel_rfl) (by kernel_rfl) (by kernel_rfl) (fun _ _ _ _ h => h) rfl (wntU (dj := 53) rfl rfl rfl rfl) hS ?_
      refine Sx.dp (i := 20) rfl (by kernel_rfl) (by kernel_rfl) (by kernel_rfl) (by kernel_rfl) (fun _ _ _ _ h => h) rfl (wntF (dj := 50) (b0 := false) rfl rfl rfl rfl (rfl) rfl) hS ?_
      refine Sx.dt (i := 21) rfl (by kernel_rfl) (by kernel_rfl) (by kernel_rfl) (by kernel_rfl) (fun _ _ _ _ h => h) rfl (wnt0 rfl) (fun wv h2 => r_pkF rfl (rfl) rfl) hS ?_
      refine Sx.dz (by kernel_rfl) ?_
      clear hS d_x1 d_x6
      refine Sx.nT ?_
      refine Sx.cf rfl (rfl) ?_
      refine wp_skip ?_
      refine Sx.nB ?_
      refine Sx.nT ?_
      refine Sx.reg ?_
      refine Sx.sv (r_add rfl rfl (by omega) (by omega)) rfl (wnt0 rfl) ?_
      refine Sx.sv (r_mv rfl) rfl (wnt0 rfl) ?_
      refine wnil ?_
      refine Sx.nT ?_
      exact Sx.lpe (⟨k + 1, z⟩) ⟨rfl, rfl, rfl, rfl, rfl, rfl, rfl, trivial⟩ ⟨hlt, hbe.skip (fun h => hb1 h.1), x1, E2⟩ (show _ - (k + 1) < _ - k by omega)
  · refine Sx.cf rfl (decide_eq_false (by omega)) ?_
    obtain rfl : k = x.g.length := by omega
    refine wp_exit ?_
    refine Sx.eT ?_
    refine Sx.eT ?_
    refine Sx.eB ?_
    refine Sx.nT ?_
    refine Sx.seq ?_
    refine Sx.seq ?_
    refine Sx.reg ?_
    refine Sx.sv (r_mv rfl) rfl (wnt0 rfl) ?_
    refine Sx.sv (r_eq rfl rfl) rfl (wnt0 rfl) ?_
    refine wnil ?_
    refine Sx.nT ?_
    by_cases hz : z = -1
    · refine Sx.ct rfl (decide_eq_true hz) ?_
      refine Sx.seq ?_
      refine Sx.reg ?_
      refine Sx.sv (r_as rfl) rfl (wnt0 rfl) ?_
      refine Sx.sv (r_as rfl) rfl (wnt0 rfl) ?_
      refine wnil ?_
      refine Sx.nT ?_
      refine wp_ret ?_
      refine Sx.rT ?_
      refine Sx.ret2 Try.results18 rfl rfl (.inl ⟨?_, rfl, (E.then E2 (fun x _ h => Nat.le_trans lE h)).toB0⟩)
      rcases hbe with ⟨_, h⟩ | ⟨b, h, _⟩
      · exact h
      · omega
    · refine Sx.cf rfl (decide_eq_false hz) ?_
      obtain ⟨bq, hzb, hbq, hq1, hq2, hq3⟩ : ∃ bq : Nat, z = bq ∧ bq < x.g.length ∧ rB x c (e3 x.g bq).a = true ∧ (e3 x.g bq).b = r ∧ (e3 x.g bq).c = gt x (rB x c) r x.g.length := hbe.resolve_left (fun h => hz h.1)
      subst hzb
      obtain ⟨b', off', hA', -, hb', hg3'⟩ := (HX.old (E.then E2 (fun x _ h => Nat.le_trans lE h))).ok.r1.t3 hbq
      have m2 : Me _ b' (off' + bq * 3) _ := ⟨hb', hg3'.seg⟩
      obtain ⟨hgo1, hgo2, hgo3, hgo4, hgo5, hgo6⟩ := hok.g bq hbq
      obtain ⟨jK, hjK, hej⟩ := e0_of ((hbf.done rfl _).2 (rB_iff.1 hq1))
      obtain ⟨Ar, cr, hhs, how⟩ := hrows jK hjK
      have hpt := hbf.pth jK hjK
      have hcl := hbf.cl jK hjK
      have hk24 := hbf.k24 hok
      rw [hej] at hpt
      have hown2 := map_rel hown E2 (show ¬ (_ ≤ _) by omega)
      obtain ⟨vv, ps, hlk, hvv⟩ := hown2.lookup law3 Try.underlying57 (Try.zeroValue48 _) (zd := .held (.slice none 0 0)) (zp := []) rfl (key := .int .i64 (e3 x.g bq).a) (kl := .int .i64 (e3 x.g bq).a) (key24 (by omega) (by omega))
      rw [← hej, hmp.at_ jK hjK] at hvv
      have hv2 : vv = hs jK := by unfold hdR at hvv; injection hvv with h; injection h with h; injection h
      rw [hhs] at hv2 how
      subst hv2
      generalize hCj : C.getD jK [] = L at *
      have own := own_rel how E2 (fun g hg => show ¬ (_ ≤ _) by have := (how.lt g hg).2; omega)
      have E3 := (E.then E2 (fun x _ h => Nat.le_trans lE h))
      refine wp_skip ?_
      refine Sx.nT ?_
      refine Sx.seq ?_
      refine Sx.reg ?_
      refine Sx.sv (r_mv rfl) rfl (wnt0 rfl) ?_
      refine Sx.sv (r_fa fo31_2 rfl) rfl (wnt0 rfl) ?_
      refine Sx.sv (r_ld ty27 rfl (x1.seg) rfl) rfl (wnt0 rfl) ?_
      refine Sx.sv (r_mv rfl) rfl (wnt0 rfl) ?_
      refine Sx.sv (r_ixi ix27 rfl (by first | rfl | assumption) rfl (by first | rfl | assumption) (by omega)) rfl (wnt0 rfl) ?_
      refine Sx.sv (r_fa fo43_0 rfl) rfl (wnt0 rfl) ?_
      refine Sx.sv (r_ld ty3 rfl (m2.seg) rfl) rfl (wnt0 rfl) ?_
      refine Sx.sv (r_lk rfl rfl hlk) rfl (wnt0 rfl) ?_
      replace own := own_base own hEm
      refine Sx.sv (r_mv rfl) rfl (wnt0 rfl) ?_
      refine Sx.sv (r_bld rfl (bd61_0_1_2_3 _ _ _ _)) rfl (wnt0 rfl) ?_
      refine Sx.sy (y_bs rfl (bs48_1 _ _ _ _)) rfl (wnt0 rfl) ?_
      rintro _ w13 ⟨b13, rfl, n13, x13⟩
      have l13_x1 : b1 < b13 := Nat.lt_of_lt_of_le x1.lt n13.ge
      have f13_own := fresh_own own n13.ge
      have g13 : w.heap.size ≤ b13 := Nat.le_trans E3.size n13.ge
      replace x1 := x1.nw n13.r
      replace own := own_nw own n13.r
      replace E3 := E3.then n13.r (fun _ _ h => h.elim)
      refine Sx.sy (y_app Try.underlying48 zi61 rfl (by decide) (by decide) rfl rfl own x13 rfl rfl (by omega) (by have := E3.size; omega)) rfl (wnt0 rfl) ?_
      rintro _ w14 ⟨A14, c14, rfl, o14, r14, a14⟩
      replace x1 := x1.rel r14 (by first | assumption | exact own_not own x1 (by decide) | exact own_far own (by omega))
      replace x13 := x13.rel r14 (by first | assumption | exact own_not own x13 (by decide) | exact own_far own (by omega))
      replace E3 := E3.then r14 (fun x hx e => show w.heap.size ≤ x by have := own_ge own e; omega)
      replace own := o14; clear o14
      clear x13
      refine Sx.sv (r_as rfl) rfl (wnt0 rfl) ?_
      refine Sx.sv (r_as rfl) rfl (wnt0 rfl) ?_
      refine wnil ?_
      refine Sx.nT ?_
      refine wp_ret ?_
      refine Sx.ret2 Try.results18 rfl rfl (.inr ⟨L, bq, _, _, rfl, hbq, hpt, hq2, hq3, by omega, ?_, E3.toB0⟩)
      have hv4 : v4 (L ++ [lkG bq]) = v4 L ++ [.int .i64 3, .int .i64 bq, .int .i64 (-1), .int .i64 (-1)] := v4_snoc _ _
      rw [hv4]
      exact own
end Go.Proofs.Ytahggnlmabdbbaa.Di
