import Derived.Test.YtahggnlmabdbbaaDoorSxP
import Derived.Test.YtahggnlmabdbbaaDoorRtMem
namespace Go.Proofs.YtahggnlmabdbbaaDoor.Di
open Go.RowKit Go.Shelf
open Go.Proofs.YtahggnlmabdbbaaDoor.Tp
open Go.Proofs.YtahggnlmabdbbaaDoor.Sx
set_option linter.unusedVariables false
def okG3 (c k : Int) (y : T3) : Prop := 0 ≤ y.a ∧ y.a < c ∧ 0 ≤ y.b ∧ y.b < k ∧ 1 ≤ y.c ∧ y.c ≤ 3
def okS2 (c k : Int) (y : T2) : Prop := 0 ≤ y.a ∧ y.a < k ∧ 0 ≤ y.b ∧ y.b < c
def okM2 (c : Int) (y : T2) : Prop := 0 ≤ y.a ∧ y.a < c ∧ 0 ≤ y.b ∧ y.b < c
/-- Rights as the maker makes them. -/
structure MkR (x : Rt) : Prop where
  c1 : 1 ≤ x.c
  c6 : x.c ≤ 6
  k1 : 1 ≤ x.k
  k5 : x.k ≤ 5
  g7 : x.g.length ≤ 7
  s4 : x.s.length ≤ 4
  m3 : x.m.length ≤ 3
  g : ∀ y ∈ x.g, okG3 x.c x.k y
  s : ∀ y ∈ x.s, okS2 x.c x.k y
  m : ∀ y ∈ x.m, okM2 x.c y
def RiPost (T : Nat) (w : World) (e : Ending) (w' : World) : Prop := ∃ (x : Rt) (v : Vr), e = .returned (.agg (gr x v)) ∧ MkR x ∧ RL w' w.heap.size x v ∧ w.grownBy w' (some T) ∧ TapeOk w' T
set_option maxRecDepth 100000 in
set_option maxHeartbeats 4000000 in
theorem rights_any (T : Nat) (w : World) (ht : TapeOk w T) (hT : T < w.heap.size) : Calls Tryd.prog 9 #[.pointer (some ⟨T, 0, none⟩)] w (RiPost T w) := by
  have E : Rel (fun x => x = T ∨ w.heap.size ≤ x) w w := Rel.refl _ _
  have lT : T < w.heap.size := hT
  refine Sx.enter Tryd.func9 rfl Tryd.ntmps9 rfl (fun fr => ?_)
  refine Sx.seq ?_
  refine Sx.reg ?_
  refine Sx.sy (y_all zi27 rfl) rfl (wnt0 rfl) ?_
  rintro _ w1 ⟨b1, rfl, n1, x1⟩
  have l1_ht : T < b1 := Nat.lt_of_lt_of_le (tape_lt ht) n1.ge
  have g1 : w.heap.size ≤ b1 := Nat.le_trans E.size n1.ge
  replace ht := tape_rel ht n1.r (fun _ _ h => h)
  replace E := E.then n1.r (fun _ _ h => h.elim)
  refine wnil ?_
  refine Sx.nT ?_
  refine Sx.seq ?_
  refine Sx.reg ?_
  refine Sx.sv (r_mv rfl) rfl (wnt0 rfl) ?_
  have tq2_ht := tape_lt ht
  refine Sx.sc (r_call en15 rfl) rfl (wnt0 rfl) (between_any T 1 6 _ ht (by omega) (by omega) (by omega) (by omega)) ?_
  rintro e w2 ⟨z2, p2, q2, rfl, hg2, ht2⟩
  refine ⟨_, rfl, ?_⟩
  have r2 := Rel.ofT hg2
  replace x1 := x1.ch r2 (by omega)
  replace E := E.then r2 (fun x hx (e : x = T) => show x = T ∨ w.heap.size ≤ x by omega)
  replace ht := ht2
  refine Sx.sv (r_mv rfl) rfl (wnt0 rfl) ?_
  have tq3_ht := tape_lt ht
  refine Sx.sc (r_call en15 rfl) rfl (wnt0 rfl) (between_any T 1 5 _ ht (by omega) (by omega) (by omega) (by omega)) ?_
  rintro e w3 ⟨z3, p3, q3, rfl, hg3, ht3⟩
  refine ⟨_, rfl, ?_⟩
  have r3 := Rel.ofT hg3
  replace x1 := x1.ch r3 (by omega)
  replace E := E.then r3 (fun x hx (e : x = T) => show x = T ∨ w.heap.size ≤ x by omega)
  replace ht := ht3
  refine Sx.sv (r_bld rfl (bd27_0_1 _ _)) rfl (wnt0 rfl) ?_
  refine Sx.sy (y_all zi27 rfl) rfl (wnt0 rfl) ?_
  rintro _ w4 ⟨b4, rfl, n4, x4⟩
  have l4_ht : T < b4 := Nat.lt_of_lt_of_le (tape_lt ht) n4.ge
  have l4_x1 : b1 < b4 := Nat.lt_of_lt_of_le x1.lt n4.ge
  have g4 : w.heap.size ≤ b4 := Nat.le_trans E.size n4.ge
  replace ht := tape_rel ht n4.r (fun _ _ h => h)
  replace x1 := x1.nw n4.r
  replace E := E.then n4.r (fun _ _ h => h.elim)
  refine Sx.syu (u_stR ty27 rfl rfl rfl x4 rfl rfl) rfl (wnt0 rfl) ?_
  rintro w5 ⟨r5, z5, x5n⟩
  replace ht := tape_rel ht r5 (fun b hb (e : b = b4) => by omega)
  replace x1 := x1.ch r5 (by omega)
  replace E := E.then r5 (fun x hx (e : x = b4) => show x = T ∨ w.heap.size ≤ x by omega)
  replace x4 := x5n; clear x5n
  refine wnil ?_
  refine Sx.nT ?_
  refine Sx.seq ?_
  refine Sx.seq ?_
  refine Sx.reg ?_
  refine Sx.sv (r_mv rfl) rfl (wnt0 rfl) ?_
  have tq6_ht := tape_lt ht
  refine Sx.sc (r_call en11 rfl) rfl (wnt0 rfl) (next_any T 8 _ ht (by omega) (by omega)) ?_
  rintro e w6 ⟨z6, p6, q6, rfl, hg6, ht6⟩
  refine ⟨_, rfl, ?_⟩
  have r6 := Rel.ofT hg6
  replace x1 := x1.ch r6 (by omega)
  replace x4 := x4.ch r6 (by omega)
  replace E := E.then r6 (fun x hx (e : x = T) => show x = T ∨ w.heap.size ≤ x by omega)
  replace ht := ht6
  refine Sx.sv (r_as rfl) rfl (wnt0 rfl) ?_
  refine wnil ?_
  refine Sx.nT ?_
  refine Sx.blk ?_
  obtain ⟨j0, hj0⟩ : ∃ j0 : Nat, z6 = (j0 : Int) := ⟨z6.toNat, by omega⟩
  subst hj0
  have hj7 : j0 ≤ 7 := by omega
  refine Sx.lp (Nat × List T3 × Option Addr × Nat) (fun ⟨j, g, A1, c1⟩ => [(4, .int .i64 (j : Int)), (3, .pointer (some ⟨b4, 0, none⟩)), (2, .pointer (some ⟨b1, 0, none⟩)), (0, .pointer (some ⟨T, 0, none⟩))]) (fun ⟨j, g, A1, c1⟩ wr => j ≤ 7 ∧ g.length + j ≤ 7 ∧ (∀ y ∈ g, okG3 z2 z3 y) ∧ Bx wr b4 [.int .i64 z2, .int .i64 z3, .slice A1 g.length c1, .slice none 0 0, .slice none 0 0] 27 ∧ wr.ownsRow w.heap.size 54 3 (.slice A1 g.length c1) g.length (v3 g) ∧ Bx wr b1 [.int .i64 0, .int .i64 0, .slice none 0 0, .slice none 0 0, .slice none 0 0] 27 ∧ Rel (fun x => x = T ∨ w.heap.size ≤ x) w wr ∧ TapeOk wr T) (fun ⟨j, g, A1, c1⟩ => j) ⟨j0, [], none, 0⟩ ⟨rfl, rfl, rfl, rfl, trivial⟩ ⟨hj7, by simp only [List.length_nil]; omega, fun y hy => (by cases hy), x4, own_nil _ _ _ _, x1, E, ht⟩ ?_
  rintro ⟨j, g, A1, c1⟩ fr w7 ⟨hj, hl0, hok0, x4, own0, x1, E, ht⟩
  show Code.wp _ _ _ (Fa fr [(4, .int .i64 (j : Int)), (3, .pointer (some ⟨b4, 0, none⟩)), (2, .pointer (some ⟨b1, 0, none⟩)), (0, .pointer (some ⟨T, 0, none⟩))]) _
  refine Sx.seq ?_
  refine Sx.seq ?_
  refine Sx.reg ?_
  refine Sx.sv (r_mv rfl) rfl (wnt0 rfl) ?_
  refine Sx.sv (r_gt rfl rfl) rfl (wnt0 rfl) ?_
  refine wnil ?_
  refine Sx.nT ?_
  by_cases hlt : 0 < j
  · refine Sx.ct rfl (decide_eq_true (by omega)) ?_
    refine wp_skip ?_
    refine Sx.nT ?_
    refine Sx.seq ?_
    refine Sx.blk ?_
    have hx_x4 : ¬ some b4 = ((Value.slice A1 g.length c1)).ownBlock := (by first | exact own_not own0 x4 (by decide) | exact own_far own0 (by omega))
    have hx_x1 : ¬ some b1 = ((Value.slice A1 g.length c1)).ownBlock := (by first | exact own_not own0 x1 (by decide) | exact own_far own0 (by omega))
    refine Sx.drg 16 (fun w8 wv => Rel (fun x => x = T ∨ w8.heap.size ≤ x ∨ some x = ((Value.slice A1 g.length c1)).ownBlock) w8 wv ∧ TapeOk wv T) mx (fun w8 hd => ?_)
    replace x4 := x4.nw hd
    replace x1 := x1.nw hd
    replace ht := tape_rel ht hd (fun _ _ h => h)
    replace own0 := own_nw own0 hd
    replace E := E.then hd (fun _ _ h => h.elim)
    have q_x4 := x4.lt
    have q_x1 := x1.lt
    have d_x4 := x4
    have d_x1 := x1
    have hS : Rel (fun x => x = T ∨ w8.heap.size ≤ x ∨ some x = ((Value.slice A1 g.length c1)).ownBlock) w8 w8 ∧ TapeOk w8 T := ⟨Rel.refl _ _, ht⟩
    refine Sx.dt (i := 0) rfl (by kernel_rfl) (by kernel_rfl) (by kernel_rfl) (by kernel_rfl) (fun _ _ _ _ h => h) rfl (wnt0 rfl) (fun wv h2 => r_fa fo27_2 rfl) hS ?_
    refine Sx.dt (i := 2) rfl (by kernel_rfl) (by kernel_rfl) (by kernel_rfl) (by kernel_rfl) (fun _ _ _ _ h => h) rfl (wnt0 rfl) (fun wv h2 => r_mv rfl) hS ?_
    refine Sx.dt (i := 3) rfl (by kernel_rfl) (by kernel_rfl) (by kernel_rfl) (by kernel_rfl) (fun _ _ _ _ h => h) rfl (wnt0 rfl) (fun wv h2 => r_fa fo27_0 rfl) hS ?_
    refine Sx.dt (i := 6) rfl (by kernel_rfl) (by kernel_rfl) (by kernel_rfl) (by kernel_rfl) (fun _ _ _ _ h => h) rfl (wnt0 rfl) (fun wv h2 => r_mv rfl) hS ?_
    refine Sx.dt (i := 7) rfl (by kernel_rfl) (by kernel_rfl) (by kernel_rfl) (by kernel_rfl) (fun _ _ _ _ h => h) rfl (wnt0 rfl) (fun wv h2 => r_fa fo27_1 rfl) hS ?_
    refine Sx.dt (i := 10) rfl (by kernel_rfl) (by kernel_rfl) (by kernel_rfl) (by kernel_rfl) (fun _ _ _ _ h => h) rfl (wnt0 rfl) (fun wv h2 => r_mv rfl) hS ?_
    refine Sx.dt (i := 1) rfl (by kernel_rfl) (by kernel_rfl) (by kernel_rfl) (by kernel_rfl) (fun _ _ _ _ h => h) rfl (wnt0 rfl) (fun wv h2 => r_ld ty23 rfl ((d_x4.rel h2.1 (show ¬ (b4 = T ∨ w8.heap.size ≤ b4 ∨ some b4 = ((Value.slice A1 g.length c1)).ownBlock) from not_or.2 ⟨by omega, not_or.2 ⟨by omega, by assumption⟩⟩)).seg) rfl) hS ?_
    refine Sx.dt (i := 4) rfl (by kernel_rfl) (by kernel_rfl) (by kernel_rfl) (by kernel_rfl) (fun _ _ _ _ h => h) rfl (wnt0 rfl) (fun wv h2 => r_ld ty3 rfl ((d_x4.rel h2.1 (show ¬ (b4 = T ∨ w8.heap.size ≤ b4 ∨ some b4 = ((Value.slice A1 g.length c1)).ownBlock) from not_or.2 ⟨by omega, not_or.2 ⟨by omega, by assumption⟩⟩)).seg) rfl) hS ?_
    refine Sx.dt (i := 8) rfl (by kernel_rfl) (by kernel_rfl) (by kernel_rfl) (by kernel_rfl) (fun _ _ _ _ h => h) rfl (wnt0 rfl) (fun wv h2 => r_ld ty3 rfl ((d_x4.rel h2.1 (show ¬ (b4 = T ∨ w8.heap.size ≤ b4 ∨ some b4 = ((Value.slice A1 g.length c1)).ownBlock) from not_or.2 ⟨by omega, not_or.2 ⟨by omega, by assumption⟩⟩)).seg) rfl) hS ?_
    have tq9_ht := tape_lt ht
    refine Sx.da1 (i := 5) (by kernel_rfl) ?_
    refine Sx.wc rfl (wnt0 rfl) rfl (r_call en11 rfl) (next_any T z2 _ ht (by omega) (by omega)) ?_
    rintro e w9 ⟨z9, p9, q9, rfl, hg9, ht9⟩
    have r9 := Rel.ofT hg9
    replace x4 := x4.ch r9 (by omega)
    replace x1 := x1.ch r9 (by omega)
    replace own0 := own_rel own0 r9 (fun q hq (e : q = T) => by subst e; first | exact own_not own0 (by assumption) (by decide) hq.symm | exact own_far own0 (by omega) hq.symm)
    replace E := E.then r9 (fun x hx (e : x = T) => show x = T ∨ w.heap.size ≤ x by omega)
    replace ht := ht9
    replace hS : Rel (fun x => x = T ∨ w8.heap.size ≤ x ∨ some x = ((Value.slice A1 g.length c1)).ownBlock) w8 w9 ∧ TapeOk w9 T := ⟨hS.1.then r9 (fun x hx (e : x = T) => show x = T ∨ w8.heap.size ≤ x ∨ some x = ((Value.slice A1 g.length c1)).ownBlock by omega), ht⟩
    refine ⟨_, rfl, .inr hS, ?_⟩
    have tq10_ht := tape_lt ht
    refine Sx.da1 (i := 9) (by kernel_rfl) ?_
    refine Sx.wc rfl (wnt0 rfl) rfl (r_call en11 rfl) (next_any T z3 _ ht (by omega) (by omega)) ?_
    rintro e w10 ⟨z10, p10, q10, rfl, hg10, ht10⟩
    have r10 := Rel.ofT hg10
    replace x4 := x4.ch r10 (by omega)
    replace x1 := x1.ch r10 (by omega)
    replace own0 := own_rel own0 r10 (fun q hq (e : q = T) => by subst e; first | exact own_not own0 (by assumption) (by decide) hq.symm | exact own_far own0 (by omega) hq.symm)
    replace E := E.then r10 (fun x hx (e : x = T) => show x = T ∨ w.heap.size ≤ x by omega)
    replace ht := ht10
    replace hS : Rel (fun x => x = T ∨ w8.heap.size ≤ x ∨ some x = ((Value.slice A1 g.length c1)).ownBlock) w8 w10 ∧ TapeOk w10 T := ⟨hS.1.then r10 (fun x hx (e : x = T) => show x = T ∨ w8.heap.size ≤ x ∨ some x = ((Value.slice A1 g.length c1)).ownBlock by omega), ht⟩
    refine ⟨_, rfl, .inr hS, ?_⟩
    have tq11_ht := tape_lt ht
    refine Sx.da1 (i := 11) (by kernel_rfl) ?_
    refine Sx.wc rfl (wnt0 rfl) rfl (r_call en15 rfl) (between_any T 1 3 _ ht (by omega) (by omega) (by omega) (by omega)) ?_
    rintro e w11 ⟨z11, p11, q11, rfl, hg11, ht11⟩
    have r11 := Rel.ofT hg11
    replace x4 := x4.ch r11 (by omega)
    replace x1 := x1.ch r11 (by omega)
    replace own0 := own_rel own0 r11 (fun q hq (e : q = T) => by subst e; first | exact own_not own0 (by assumption) (by decide) hq.symm | exact own_far own0 (by omega) hq.symm)
    replace E := E.then r11 (fun x hx (e : x = T) => show x = T ∨ w.heap.size ≤ x by omega)
    replace ht := ht11
    replace hS : Rel (fun x => x = T ∨ w8.heap.size ≤ x ∨ some x = ((Value.slice A1 g.length c1)).ownBlock) w8 w11 ∧ TapeOk w11 T := ⟨hS.1.then r11 (fun x hx (e : x = T) => show x = T ∨ w8.heap.size ≤ x ∨ some x = ((Value.slice A1 g.length c1)).ownBlock by omega), ht⟩
    refine ⟨_, rfl, .inr hS, ?_⟩
    refine Sx.dt (i := 12) rfl (by kernel_rfl) (by kernel_rfl) (by kernel_rfl) (by kernel_rfl) (fun _ _ _ _ h => h) rfl (wnt0 rfl) (fun wv h2 => r_bld rfl (bd54_0_1_2 _ _ _)) hS ?_
    refine Sx.da1 (i := 13) (by kernel_rfl) ?_
    refine Sx.wy rfl (wnt0 rfl) (y_bs rfl (bs23_1 _ _ _)) rfl ?_
    rintro _ w12 ⟨b12, rfl, n12, x12⟩
    have l12_x4 : b4 < b12 := Nat.lt_of_lt_of_le x4.lt n12.ge
    have l12_x1 : b1 < b12 := Nat.lt_of_lt_of_le x1.lt n12.ge
    have l12_ht : T < b12 := Nat.lt_of_lt_of_le (tape_lt ht) n12.ge
    have f12_own0 := fresh_own own0 n12.ge
    have g12 : w.heap.size ≤ b12 := Nat.le_trans E.size n12.ge
    replace x4 := x4.nw n12.r
    replace x1 := x1.nw n12.r
    replace ht := tape_rel ht n12.r (fun _ _ h => h)
    replace own0 := own_nw own0 n12.r
    replace E := E.then n12.r (fun _ _ h => h.elim)
    have q_x12 := x12.lt
    replace hS : Rel (fun x => x = T ∨ w8.heap.size ≤ x ∨ some x = ((Value.slice A1 g.length c1)).ownBlock) w8 w12 ∧ TapeOk w12 T := ⟨hS.1.then n12.r (fun _ _ h => h.elim), ht⟩
    refine ⟨.inr hS, ?_⟩
    refine Sx.da1 (i := 14) (by kernel_rfl) ?_
    refine Sx.wy rfl (wnt0 rfl) (y_app Tryd.underlying23 zi54 rfl (by decide) (by decide) rfl rfl own0 x12 rfl rfl (by omega) (by have := E.size; omega)) rfl ?_
    rintro _ w13 ⟨A13, c13, rfl, o13, r13, a13⟩
    replace x4 := x4.rel r13 (by first | assumption | exact own_not own0 x4 (by decide) | exact own_far own0 (by omega))
    replace x1 := x1.rel r13 (by first | assumption | exact own_not own0 x1 (by decide) | exact own_far own0 (by omega))
    replace ht := tape_rel ht r13 (fun b hb e => by have := own_ge own0 e; omega)
    replace x12 := x12.rel r13 (by first | assumption | exact own_not own0 x12 (by decide) | exact own_far own0 (by omega))
    replace E := E.then r13 (fun x hx e => show x = T ∨ w.heap.size ≤ x by have := own_ge own0 e; omega)
    replace hS : Rel (fun x => x = T ∨ w8.heap.size ≤ x ∨ some x = ((Value.slice A1 g.length c1)).ownBlock) w8 w13 ∧ TapeOk w13 T := ⟨hS.1.then r13 (fun x hx e => show x = T ∨ w8.heap.size ≤ x ∨ some x = ((Value.slice A1 g.length c1)).ownBlock from .inr (.inr (e))), ht⟩
    replace own0 := o13; clear o13
    refine ⟨.inr hS, ?_⟩
    refine Sx.dt (i := 15) rfl (by kernel_rfl) (by kernel_rfl) (by kernel_rfl) (by kernel_rfl) (fun _ _ _ _ h => h) rfl (wnt0 rfl) (fun wv h2 => r_fa fo27_2 rfl) hS ?_
    refine Sx.da1 (i := 16) (by kernel_rfl) ?_
    refine Sx.wyu rfl (wnt0 rfl) (u_st sz23 rfl rfl rfl rfl x4 rfl) rfl ?_
    rintro w14 ⟨r14, z14, x14n⟩
    replace x1 := x1.ch r14 (by omega)
    replace ht := tape_rel ht r14 (fun b hb (e : b = b4) => by omega)
    replace own0 := own_rel own0 r14 (fun q hq (e : q = b4) => by subst e; first | exact own_not own0 (by assumption) (by decide) hq.symm | exact own_far own0 (by omega) hq.symm)
    replace x12 := x12.ch r14 (by omega)
    replace E := E.then r14 (fun x hx (e : x = b4) => show x = T ∨ w.heap.size ≤ x by omega)
    replace x4 := x14n; clear x14n
    refine ⟨.inl rfl, ?_⟩
    refine Sx.dz (by kernel_rfl) ?_
    clear hS d_x4 d_x1
    refine Sx.nB ?_
    refine Sx.nT ?_
    refine Sx.reg ?_
    refine Sx.sv (r_mv rfl) rfl (wnt0 rfl) ?_
    refine Sx.sv (r_sub rfl rfl (by omega) (by omega)) rfl (wnt0 rfl) ?_
    refine Sx.sv (r_as rfl) rfl (wnt0 rfl) ?_
    refine wnil ?_
    refine Sx.nT ?_
    have hle : (g ++ [(⟨z9, z10, z11⟩ : T3)]).length = g.length + 1 := by simp
    exact Sx.lpe (⟨j - 1, g ++ [(⟨z9, z10, z11⟩ : T3)], A13, c13⟩) ⟨by rw [show ((j - 1 : Nat) : Int) = (j : Int) - 1 by omega]; rfl, rfl, rfl, rfl, trivial⟩ ⟨by omega, by rw [hle]; omega, (fun y hy => by rcases List.mem_append.1 hy with hy | hy; exact hok0 y hy; rw [List.mem_singleton] at hy; subst hy; exact ⟨(show (0 : Int) ≤ z9 by omega), (show z9 < z2 by omega), (show (0 : Int) ≤ z10 by omega), (show z10 < z3 by omega), (show (1 : Int) ≤ z11 by omega), (show z11 ≤ 3 by omega)⟩), by rw [hle]; exact x4, by rw [v3_snoc, hle]; exact own0, x1, E, ht⟩ (show j - 1 < j by omega)
  · skip
    refine Sx.cf rfl (decide_eq_false (by omega)) ?_
    refine wp_exit ?_
    refine Sx.eT ?_
    refine Sx.eT ?_
    refine Sx.eB ?_
    refine Sx.nT ?_
    refine Sx.seq ?_
    refine Sx.seq ?_
    refine Sx.reg ?_
    refine Sx.sv (r_mv rfl) rfl (wnt0 rfl) ?_
    have tq15_ht := tape_lt ht
    refine Sx.sc (r_call en11 rfl) rfl (wnt0 rfl) (next_any T 5 _ ht (by omega) (by omega)) ?_
    rintro e w15 ⟨z15, p15, q15, rfl, hg15, ht15⟩
    refine ⟨_, rfl, ?_⟩
    have r15 := Rel.ofT hg15
    replace x4 := x4.ch r15 (by omega)
    replace x1 := x1.ch r15 (by omega)
    replace own0 := own_rel own0 r15 (fun q hq (e : q = T) => by subst e; first | exact own_not own0 (by assumption) (by decide) hq.symm | exact own_far own0 (by omega) hq.symm)
    replace E := E.then r15 (fun x hx (e : x = T) => show x = T ∨ w.heap.size ≤ x by omega)
    replace ht := ht15
    refine Sx.sv (r_as rfl) rfl (wnt0 rfl) ?_
    refine wnil ?_
    refine Sx.nT ?_
    refine Sx.blk ?_
    obtain ⟨j0, hj0⟩ : ∃ j0 : Nat, z15 = (j0 : Int) := ⟨z15.toNat, by omega⟩
    subst hj0
    have hj7 : j0 ≤ 4 := by omega
    refine Sx.lp (Nat × List T2 × Option Addr × Nat) (fun ⟨j, s, A2, c2⟩ => [(5, .int .i64 (j : Int)), (3, .pointer (some ⟨b4, 0, none⟩)), (2, .pointer (some ⟨b1, 0, none⟩)), (0, .pointer (some ⟨T, 0, none⟩))]) (fun ⟨j, s, A2, c2⟩ wr => j ≤ 4 ∧ s.length + j ≤ 4 ∧ (∀ y ∈ s, okS2 z2 z3 y) ∧ Bx wr b4 [.int .i64 z2, .int .i64 z3, .slice A1 g.length c1, .slice A2 s.length c2, .slice none 0 0] 27 ∧ wr.ownsRow w.heap.size 60 2 (.slice A2 s.length c2) s.length (v2 s) ∧ wr.ownsRow w.heap.size 54 3 (.slice A1 g.length c1) g.length (v3 g) ∧ Bx wr b1 [.int .i64 0, .int .i64 0, .slice none 0 0, .slice none 0 0, .slice none 0 0] 27 ∧ Rel (fun x => x = T ∨ w.heap.size ≤ x) w wr ∧ TapeOk wr T) (fun ⟨j, s, A2, c2⟩ => j) ⟨j0, [], none, 0⟩ ⟨rfl, rfl, rfl, rfl, trivial⟩ ⟨hj7, by simp only [List.length_nil]; omega, fun y hy => (by cases hy), x4, own_nil _ _ _ _, own0, x1, E, ht⟩ ?_
    rintro ⟨j, s, A2, c2⟩ fr w16 ⟨hj, hl1, hok1, x4, own1, own0, x1, E, ht⟩
    show Code.wp _ _ _ (Fa fr [(5, .int .i64 (j : Int)), (3, .pointer (some ⟨b4, 0, none⟩)), (2, .pointer (some ⟨b1, 0, none⟩)), (0, .pointer (some ⟨T, 0, none⟩))]) _
    refine Sx.seq ?_
    refine Sx.seq ?_
    refine Sx.reg ?_
    refine Sx.sv (r_mv rfl) rfl (wnt0 rfl) ?_
    refine Sx.sv (r_gt rfl rfl) rfl (wnt0 rfl) ?_
    refine wnil ?_
    refine Sx.nT ?_
    by_cases hlt : 0 < j
    · refine Sx.ct rfl (decide_eq_true (by omega)) ?_
      refine wp_skip ?_
      refine Sx.nT ?_
      refine Sx.seq ?_
      refine Sx.blk ?_
      have hx_x4 : ¬ some b4 = ((Value.slice A2 s.length c2)).ownBlock := (by first | exact own_not own1 x4 (by decide) | exact own_far own1 (by omega))
      have hx_x1 : ¬ some b1 = ((Value.slice A2 s.length c2)).ownBlock := (by first | exact own_not own1 x1 (by decide) | exact own_far own1 (by omega))
      refine Sx.drg 14 (fun w17 wv => Rel (fun x => x = T ∨ w17.heap.size ≤ x ∨ some x = ((Value.slice A2 s.length c2)).ownBlock) w17 wv ∧ TapeOk wv T) mx (fun w17 hd => ?_)
      replace x4 := x4.nw hd
      replace x1 := x1.nw hd
      replace ht := tape_rel ht hd (fun _ _ h => h)
      replace own0 := own_nw own0 hd
      replace own1 := own_nw own1 hd
      replace E := E.then hd (fun _ _ h => h.elim)
      have q_x4 := x4.lt
      have q_x1 := x1.lt
      have d_x4 := x4
      have d_x1 := x1
      have hS : Rel (fun x => x = T ∨ w17.heap.size ≤ x ∨ some x = ((Value.slice A2 s.length c2)).ownBlock) w17 w17 ∧ TapeOk w17 T := ⟨Rel.refl _ _, ht⟩
      refine Sx.dt (i := 0) rfl (by kernel_rfl) (by kernel_rfl) (by kernel_rfl) (by kernel_rfl) (fun _ _ _ _ h => h) rfl (wnt0 rfl) (fun wv h2 => r_fa fo27_3 rfl) hS ?_
      refine Sx.dt (i := 2) rfl (by kernel_rfl) (by kernel_rfl) (by kernel_rfl) (by kernel_rfl) (fun _ _ _ _ h => h) rfl (wnt0 rfl) (fun wv h2 => r_mv rfl) hS ?_
      refine Sx.dt (i := 3) rfl (by kernel_rfl) (by kernel_rfl) (by kernel_rfl) (by kernel_rfl) (fun _ _ _ _ h => h) rfl (wnt0 rfl) (fun wv h2 => r_fa fo27_1 rfl) hS ?_
      refine Sx.dt (i := 6) rfl (by kernel_rfl) (by kernel_rfl) (by kernel_rfl) (by kernel_rfl) (fun _ _ _ _ h => h) rfl (wnt0 rfl) (fun wv h2 => r_mv rfl) hS ?_
      refine Sx.dt (i := 7) rfl (by kernel_rfl) (by kernel_rfl) (by kernel_rfl) (by kernel_rfl) (fun _ _ _ _ h => h) rfl (wnt0 rfl) (fun wv h2 => r_fa fo27_0 rfl) hS ?_
      refine Sx.dt (i := 1) rfl (by kernel_rfl) (by kernel_rfl) (by kernel_rfl) (by kernel_rfl) (fun _ _ _ _ h => h) rfl (wnt0 rfl) (fun wv h2 => r_ld ty24 rfl ((d_x4.rel h2.1 (show ¬ (b4 = T ∨ w17.heap.size ≤ b4 ∨ some b4 = ((Value.slice A2 s.length c2)).ownBlock) from not_or.2 ⟨by omega, not_or.2 ⟨by omega, by assumption⟩⟩)).seg) rfl) hS ?_
      refine Sx.dt (i := 4) rfl (by kernel_rfl) (by kernel_rfl) (by kernel_rfl) (by kernel_rfl) (fun _ _ _ _ h => h) rfl (wnt0 rfl) (fun wv h2 => r_ld ty3 rfl ((d_x4.rel h2.1 (show ¬ (b4 = T ∨ w17.heap.size ≤ b4 ∨ some b4 = ((Value.slice A2 s.length c2)).ownBlock) from not_or.2 ⟨by omega, not_or.2 ⟨by omega, by assumption⟩⟩)).seg) rfl) hS ?_
      refine Sx.dt (i := 8) rfl (by kernel_rfl) (by kernel_rfl) (by kernel_rfl) (by kernel_rfl) (fun _ _ _ _ h => h) rfl (wnt0 rfl) (fun wv h2 => r_ld ty3 rfl ((d_x4.rel h2.1 (show ¬ (b4 = T ∨ w17.heap.size ≤ b4 ∨ some b4 = ((Value.slice A2 s.length c2)).ownBlock) from not_or.2 ⟨by omega, not_or.2 ⟨by omega, by assumption⟩⟩)).seg) rfl) hS ?_
      have tq18_ht := tape_lt ht
      refine Sx.da1 (i := 5) (by kernel_rfl) ?_
      refine Sx.wc rfl (wnt0 rfl) rfl (r_call en11 rfl) (next_any T z3 _ ht (by omega) (by omega)) ?_
      rintro e w18 ⟨z18, p18, q18, rfl, hg18, ht18⟩
      have r18 := Rel.ofT hg18
      replace x4 := x4.ch r18 (by omega)
      replace x1 := x1.ch r18 (by omega)
      replace own0 := own_rel own0 r18 (fun q hq (e : q = T) => by subst e; first | exact own_not own0 (by assumption) (by decide) hq.symm | exact own_far own0 (by omega) hq.symm)
      replace own1 := own_rel own1 r18 (fun q hq (e : q = T) => by subst e; first | exact own_not own1 (by assumption) (by decide) hq.symm | exact own_far own1 (by omega) hq.symm)
      replace E := E.then r18 (fun x hx (e : x = T) => show x = T ∨ w.heap.size ≤ x by omega)
      replace ht := ht18
      replace hS : Rel (fun x => x = T ∨ w17.heap.size ≤ x ∨ some x = ((Value.slice A2 s.length c2)).ownBlock) w17 w18 ∧ TapeOk w18 T := ⟨hS.1.then r18 (fun x hx (e : x = T) => show x = T ∨ w17.heap.size ≤ x ∨ some x = ((Value.slice A2 s.length c2)).ownBlock by omega), ht⟩
      refine ⟨_, rfl, .inr hS, ?_⟩
      have tq19_ht := tape_lt ht
      refine Sx.da1 (i := 9) (by kernel_rfl) ?_
      refine Sx.wc rfl (wnt0 rfl) rfl (r_call en11 rfl) (next_any T z2 _ ht (by omega) (by omega)) ?_
      rintro e w19 ⟨z19, p19, q19, rfl, hg19, ht19⟩
      have r19 := Rel.ofT hg19
      replace x4 := x4.ch r19 (by omega)
      replace x1 := x1.ch r19 (by omega)
      replace own0 := own_rel own0 r19 (fun q hq (e : q = T) => by subst e; first | exact own_not own0 (by assumption) (by decide) hq.symm | exact own_far own0 (by omega) hq.symm)
      replace own1 := own_rel own1 r19 (fun q hq (e : q = T) => by subst e; first | exact own_not own1 (by assumption) (by decide) hq.symm | exact own_far own1 (by omega) hq.symm)
      replace E := E.then r19 (fun x hx (e : x = T) => show x = T ∨ w.heap.size ≤ x by omega)
      replace ht := ht19
      replace hS : Rel (fun x => x = T ∨ w17.heap.size ≤ x ∨ some x = ((Value.slice A2 s.length c2)).ownBlock) w17 w19 ∧ TapeOk w19 T := ⟨hS.1.then r19 (fun x hx (e : x = T) => show x = T ∨ w17.heap.size ≤ x ∨ some x = ((Value.slice A2 s.length c2)).ownBlock by omega), ht⟩
      refine ⟨_, rfl, .inr hS, ?_⟩
      refine Sx.dt (i := 10) rfl (by kernel_rfl) (by kernel_rfl) (by kernel_rfl) (by kernel_rfl) (fun _ _ _ _ h => h) rfl (wnt0 rfl) (fun wv h2 => r_bld rfl (bd60_0_1 _ _)) hS ?_
      refine Sx.da1 (i := 11) (by kernel_rfl) ?_
      refine Sx.wy rfl (wnt0 rfl) (y_bs rfl (bs24_1 _ _)) rfl ?_
      rintro _ w20 ⟨b20, rfl, n20, x20⟩
      have l20_x4 : b4 < b20 := Nat.lt_of_lt_of_le x4.lt n20.ge
      have l20_x1 : b1 < b20 := Nat.lt_of_lt_of_le x1.lt n20.ge
      have l20_ht : T < b20 := Nat.lt_of_lt_of_le (tape_lt ht) n20.ge
      have f20_own0 := fresh_own own0 n20.ge
      have f20_own1 := fresh_own own1 n20.ge
      have g20 : w.heap.size ≤ b20 := Nat.le_trans E.size n20.ge
      replace x4 := x4.nw n20.r
      replace x1 := x1.nw n20.r
      replace ht := tape_rel ht n20.r (fun _ _ h => h)
      replace own0 := own_nw own0 n20.r
      replace own1 := own_nw own1 n20.r
      replace E := E.then n20.r (fun _ _ h => h.elim)
      have q_x20 := x20.lt
      replace hS : Rel (fun x => x = T ∨ w17.heap.size ≤ x ∨ some x = ((Value.slice A2 s.length c2)).ownBlock) w17 w20 ∧ TapeOk w20 T := ⟨hS.1.then n20.r (fun _ _ h => h.elim), ht⟩
      refine ⟨.inr hS, ?_⟩
      refine Sx.da1 (i := 12) (by kernel_rfl) ?_
      refine Sx.wy rfl (wnt0 rfl) (y_app Tryd.underlying24 zi60 rfl (by decide) (by decide) rfl rfl own1 x20 rfl rfl (by omega) (by have := E.size; omega)) rfl ?_
      rintro _ w21 ⟨A21, c21, rfl, o21, r21, a21⟩
      replace x4 := x4.rel r21 (by first | assumption | exact own_not own1 x4 (by decide) | exact own_far own1 (by omega))
      replace x1 := x1.rel r21 (by first | assumption | exact own_not own1 x1 (by decide) | exact own_far own1 (by omega))
      replace ht := tape_rel ht r21 (fun b hb e => by have := own_ge own1 e; omega)
      replace own0 := own_rel own0 r21 (fun q hq => own_apart own0 own1 (by decide) q hq)
      replace x20 := x20.rel r21 (by first | assumption | exact own_not own1 x20 (by decide) | exact own_far own1 (by omega))
      replace E := E.then r21 (fun x hx e => show x = T ∨ w.heap.size ≤ x by have := own_ge own1 e; omega)
      replace hS : Rel (fun x => x = T ∨ w17.heap.size ≤ x ∨ some x = ((Value.slice A2 s.length c2)).ownBlock) w17 w21 ∧ TapeOk w21 T := ⟨hS.1.then r21 (fun x hx e => show x = T ∨ w17.heap.size ≤ x ∨ some x = ((Value.slice A2 s.length c2)).ownBlock from .inr (.inr (e))), ht⟩
      replace own1 := o21; clear o21
      refine ⟨.inr hS, ?_⟩
      refine Sx.dt (i := 13) rfl (by kernel_rfl) (by kernel_rfl) (by kernel_rfl) (by kernel_rfl) (fun _ _ _ _ h => h) rfl (wnt0 rfl) (fun wv h2 => r_fa fo27_3 rfl) hS ?_
      refine Sx.da1 (i := 14) (by kernel_rfl) ?_
      refine Sx.wyu rfl (wnt0 rfl) (u_st sz24 rfl rfl rfl rfl x4 rfl) rfl ?_
      rintro w22 ⟨r22, z22, x22n⟩
      replace x1 := x1.ch r22 (by omega)
      replace ht := tape_rel ht r22 (fun b hb (e : b = b4) => by omega)
      replace own0 := own_rel own0 r22 (fun q hq (e : q = b4) => by subst e; first | exact own_not own0 (by assumption) (by decide) hq.symm | exact own_far own0 (by omega) hq.symm)
      replace own1 := own_rel own1 r22 (fun q hq (e : q = b4) => by subst e; first | exact own_not own1 (by assumption) (by decide) hq.symm | exact own_far own1 (by omega) hq.symm)
      replace x20 := x20.ch r22 (by omega)
      replace E := E.then r22 (fun x hx (e : x = b4) => show x = T ∨ w.heap.size ≤ x by omega)
      replace x4 := x22n; clear x22n
      refine ⟨.inl rfl, ?_⟩
      refine Sx.dz (by kernel_rfl) ?_
      clear hS d_x4 d_x1
      refine Sx.nB ?_
      refine Sx.nT ?_
      refine Sx.reg ?_
      refine Sx.sv (r_mv rfl) rfl (wnt0 rfl) ?_
      refine Sx.sv (r_sub rfl rfl (by omega) (by omega)) rfl (wnt0 rfl) ?_
      refine Sx.sv (r_as rfl) rfl (wnt0 rfl) ?_
      refine wnil ?_
      refine Sx.nT ?_
      have hle : (s ++ [(⟨z18, z19⟩ : T2)]).length = s.length + 1 := by simp
      exact Sx.lpe (⟨j - 1, s ++ [(⟨z18, z19⟩ : T2)], A21, c21⟩) ⟨by rw [show ((j - 1 : Nat) : Int) = (j : Int) - 1 by omega]; rfl, rfl, rfl, rfl, trivial⟩ ⟨by omega, by rw [hle]; omega, (fun y hy => by rcases List.mem_append.1 hy with hy | hy; exact hok1 y hy; rw [List.mem_singleton] at hy; subst hy; exact ⟨(show (0 : Int) ≤ z18 by omega), (show z18 < z3 by omega), (show (0 : Int) ≤ z19 by omega), (show z19 < z2 by omega)⟩), by rw [hle]; exact x4, by rw [v2_snoc, hle]; exact own1, own0, x1, E, ht⟩ (show j - 1 < j by omega)
    · skip
      refine Sx.cf rfl (decide_eq_false (by omega)) ?_
      refine wp_exit ?_
      refine Sx.eT ?_
      refine Sx.eT ?_
      refine Sx.eB ?_
      refine Sx.nT ?_
      refine Sx.seq ?_
      refine Sx.seq ?_
      refine Sx.reg ?_
      refine Sx.sv (r_mv rfl) rfl (wnt0 rfl) ?_
      have tq23_ht := tape_lt ht
      refine Sx.sc (r_call en11 rfl) rfl (wnt0 rfl) (next_any T 4 _ ht (by omega) (by omega)) ?_
      rintro e w23 ⟨z23, p23, q23, rfl, hg23, ht23⟩
      refine ⟨_, rfl, ?_⟩
      have r23 := Rel.ofT hg23
      replace x4 := x4.ch r23 (by omega)
      replace x1 := x1.ch r23 (by omega)
      replace own0 := own_rel own0 r23 (fun q hq (e : q = T) => by subst e; first | exact own_not own0 (by assumption) (by decide) hq.symm | exact own_far own0 (by omega) hq.symm)
      replace own1 := own_rel own1 r23 (fun q hq (e : q = T) => by subst e; first | exact own_not own1 (by assumption) (by decide) hq.symm | exact own_far own1 (by omega) hq.symm)
      replace E := E.then r23 (fun x hx (e : x = T) => show x = T ∨ w.heap.size ≤ x by omega)
      replace ht := ht23
      refine Sx.sv (r_as rfl) rfl (wnt0 rfl) ?_
      refine wnil ?_
      refine Sx.nT ?_
      refine Sx.blk ?_
      obtain ⟨j0, hj0⟩ : ∃ j0 : Nat, z23 = (j0 : Int) := ⟨z23.toNat, by omega⟩
      subst hj0
      have hj7 : j0 ≤ 3 := by omega
      refine Sx.lp (Nat × List T2 × Option Addr × Nat) (fun ⟨j, m, A3, c3⟩ => [(6, .int .i64 (j : Int)), (3, .pointer (some ⟨b4, 0, none⟩)), (2, .pointer (some ⟨b1, 0, none⟩)), (0, .pointer (some ⟨T, 0, none⟩))]) (fun ⟨j, m, A3, c3⟩ wr => j ≤ 3 ∧ m.length + j ≤ 3 ∧ (∀ y ∈ m, okM2 z2 y) ∧ Bx wr b4 [.int .i64 z2, .int .i64 z3, .slice A1 g.length c1, .slice A2 s.length c2, .slice A3 m.length c3] 27 ∧ wr.ownsRow w.heap.size 62 2 (.slice A3 m.length c3) m.length (v2 m) ∧ wr.ownsRow w.heap.size 54 3 (.slice A1 g.length c1) g.length (v3 g) ∧ wr.ownsRow w.heap.size 60 2 (.slice A2 s.length c2) s.length (v2 s) ∧ Bx wr b1 [.int .i64 0, .int .i64 0, .slice none 0 0, .slice none 0 0, .slice none 0 0] 27 ∧ Rel (fun x => x = T ∨ w.heap.size ≤ x) w wr ∧ TapeOk wr T) (fun ⟨j, m, A3, c3⟩ => j) ⟨j0, [], none, 0⟩ ⟨rfl, rfl, rfl, rfl, trivial⟩ ⟨hj7, by simp only [List.length_nil]; omega, fun y hy => (by cases hy), x4, own_nil _ _ _ _, own0, own1, x1, E, ht⟩ ?_
      rintro ⟨j, m, A3, c3⟩ fr w24 ⟨hj, hl2, hok2, x4, own2, own0, own1, x1, E, ht⟩
      show Code.wp _ _ _ (Fa fr [(6, .int .i64 (j : Int)), (3, .pointer (some ⟨b4, 0, none⟩)), (2, .pointer (some ⟨b1, 0, none⟩)), (0, .pointer (some ⟨T, 0, none⟩))]) _
      refine Sx.seq ?_
      refine Sx.seq ?_
      refine Sx.reg ?_
      refine Sx.sv (r_mv rfl) rfl (wnt0 rfl) ?_
      refine Sx.sv (r_gt rfl rfl) rfl (wnt0 rfl) ?_
      refine wnil ?_
      refine Sx.nT ?_
      by_cases hlt : 0 < j
      · refine Sx.ct rfl (decide_eq_true (by omega)) ?_
        refine wp_skip ?_
        refine Sx.nT ?_
        refine Sx.seq ?_
        refine Sx.blk ?_
        have hx_x4 : ¬ some b4 = ((Value.slice A3 m.length c3)).ownBlock := (by first | exact own_not own2 x4 (by decide) | exact own_far own2 (by omega))
        have hx_x1 : ¬ some b1 = ((Value.slice A3 m.length c3)).ownBlock := (by first | exact own_not own2 x1 (by decide) | exact own_far own2 (by omega))
        refine Sx.drg 14 (fun w25 wv => Rel (fun x => x = T ∨ w25.heap.size ≤ x ∨ some x = ((Value.slice A3 m.length c3)).ownBlock) w25 wv ∧ TapeOk wv T) mx (fun w25 hd => ?_)
        replace x4 := x4.nw hd
        replace x1 := x1.nw hd
        replace ht := tape_rel ht hd (fun _ _ h => h)
        replace own0 := own_nw own0 hd
        replace own1 := own_nw own1 hd
        replace own2 := own_nw own2 hd
        replace E := E.then hd (fun _ _ h => h.elim)
        have q_x4 := x4.lt
        have q_x1 := x1.lt
        have d_x4 := x4
        have d_x1 := x1
        have hS : Rel (fun x => x = T ∨ w25.heap.size ≤ x ∨ some x = ((Value.slice A3 m.length c3)).ownBlock) w25 w25 ∧ TapeOk w25 T := ⟨Rel.refl _ _, ht⟩
        refine Sx.dt (i := 0) rfl (by kernel_rfl) (by kernel_rfl) (by kernel_rfl) (by kernel_rfl) (fun _ _ _ _ h => h) rfl (wnt0 rfl) (fun wv h2 => r_fa fo27_4 rfl) hS ?_
        refine Sx.dt (i := 2) rfl (by kernel_rfl) (by kernel_rfl) (by kernel_rfl) (by kernel_rfl) (fun _ _ _ _ h => h) rfl (wnt0 rfl) (fun wv h2 => r_mv rfl) hS ?_
        refine Sx.dt (i := 3) rfl (by kernel_rfl) (by kernel_rfl) (by kernel_rfl) (by kernel_rfl) (fun _ _ _ _ h => h) rfl (wnt0 rfl) (fun wv h2 => r_fa fo27_0 rfl) hS ?_
        refine Sx.dt (i := 6) rfl (by kernel_rfl) (by kernel_rfl) (by kernel_rfl) (by kernel_rfl) (fun _ _ _ _ h => h) rfl (wnt0 rfl) (fun wv h2 => r_mv rfl) hS ?_
        refine Sx.dt (i := 7) rfl (by kernel_rfl) (by kernel_rfl) (by kernel_rfl) (by kernel_rfl) (fun _ _ _ _ h => h) rfl (wnt0 rfl) (fun wv h2 => r_fa fo27_0 rfl) hS ?_
        refine Sx.dt (i := 1) rfl (by kernel_rfl) (by kernel_rfl) (by kernel_rfl) (by kernel_rfl) (fun _ _ _ _ h => h) rfl (wnt0 rfl) (fun wv h2 => r_ld ty25 rfl ((d_x4.rel h2.1 (show ¬ (b4 = T ∨ w25.heap.size ≤ b4 ∨ some b4 = ((Value.slice A3 m.length c3)).ownBlock) from not_or.2 ⟨by omega, not_or.2 ⟨by omega, by assumption⟩⟩)).seg) rfl) hS ?_
        refine Sx.dt (i := 4) rfl (by kernel_rfl) (by kernel_rfl) (by kernel_rfl) (by kernel_rfl) (fun _ _ _ _ h => h) rfl (wnt0 rfl) (fun wv h2 => r_ld ty3 rfl ((d_x4.rel h2.1 (show ¬ (b4 = T ∨ w25.heap.size ≤ b4 ∨ some b4 = ((Value.slice A3 m.length c3)).ownBlock) from not_or.2 ⟨by omega, not_or.2 ⟨by omega, by assumption⟩⟩)).seg) rfl) hS ?_
        refine Sx.dt (i := 8) rfl (by kernel_rfl) (by kernel_rfl) (by kernel_rfl) (by kernel_rfl) (fun _ _ _ _ h => h) rfl (wnt0 rfl) (fun wv h2 => r_ld ty3 rfl ((d_x4.rel h2.1 (show ¬ (b4 = T ∨ w25.heap.size ≤ b4 ∨ some b4 = ((Value.slice A3 m.length c3)).ownBlock) from not_or.2 ⟨by omega, not_or.2 ⟨by omega, by assumption⟩⟩)).seg) rfl) hS ?_
        have tq26_ht := tape_lt ht
        refine Sx.da1 (i := 5) (by kernel_rfl) ?_
        refine Sx.wc rfl (wnt0 rfl) rfl (r_call en11 rfl) (next_any T z2 _ ht (by omega) (by omega)) ?_
        rintro e w26 ⟨z26, p26, q26, rfl, hg26, ht26⟩
        have r26 := Rel.ofT hg26
        replace x4 := x4.ch r26 (by omega)
        replace x1 := x1.ch r26 (by omega)
        replace own0 := own_rel own0 r26 (fun q hq (e : q = T) => by subst e; first | exact own_not own0 (by assumption) (by decide) hq.symm | exact own_far own0 (by omega) hq.symm)
        replace own1 := own_rel own1 r26 (fun q hq (e : q = T) => by subst e; first | exact own_not own1 (by assumption) (by decide) hq.symm | exact own_far own1 (by omega) hq.symm)
        replace own2 := own_rel own2 r26 (fun q hq (e : q = T) => by subst e; first | exact own_not own2 (by assumption) (by decide) hq.symm | exact own_far own2 (by omega) hq.symm)
        replace E := E.then r26 (fun x hx (e : x = T) => show x = T ∨ w.heap.size ≤ x by omega)
        replace ht := ht26
        replace hS : Rel (fun x => x = T ∨ w25.heap.size ≤ x ∨ some x = ((Value.slice A3 m.length c3)).ownBlock) w25 w26 ∧ TapeOk w26 T := ⟨hS.1.then r26 (fun x hx (e : x = T) => show x = T ∨ w25.heap.size ≤ x ∨ some x = ((Value.slice A3 m.length c3)).ownBlock by omega), ht⟩
        refine ⟨_, rfl, .inr hS, ?_⟩
        have tq27_ht := tape_lt ht
        refine Sx.da1 (i := 9) (by kernel_rfl) ?_
        refine Sx.wc rfl (wnt0 rfl) rfl (r_call en11 rfl) (next_any T z2 _ ht (by omega) (by omega)) ?_
        rintro e w27 ⟨z27, p27, q27, rfl, hg27, ht27⟩
        have r27 := Rel.ofT hg27
        replace x4 := x4.ch r27 (by omega)
        replace x1 := x1.ch r27 (by omega)
        replace own0 := own_rel own0 r27 (fun q hq (e : q = T) => by subst e; first | exact own_not own0 (by assumption) (by decide) hq.symm | exact own_far own0 (by omega) hq.symm)
        replace own1 := own_rel own1 r27 (fun q hq (e : q = T) => by subst e; first | exact own_not own1 (by assumption) (by decide) hq.symm | exact own_far own1 (by omega) hq.symm)
        replace own2 := own_rel own2 r27 (fun q hq (e : q = T) => by subst e; first | exact own_not own2 (by assumption) (by decide) hq.symm | exact own_far own2 (by omega) hq.symm)
        replace E := E.then r27 (fun x hx (e : x = T) => show x = T ∨ w.heap.size ≤ x by omega)
        replace ht := ht27
        replace hS : Rel (fun x => x = T ∨ w25.heap.size ≤ x ∨ some x = ((Value.slice A3 m.length c3)).ownBlock) w25 w27 ∧ TapeOk w27 T := ⟨hS.1.then r27 (fun x hx (e : x = T) => show x = T ∨ w25.heap.size ≤ x ∨ some x = ((Value.slice A3 m.length c3)).ownBlock by omega), ht⟩
        refine ⟨_, rfl, .inr hS, ?_⟩
        refine Sx.dt (i := 10) rfl (by kernel_rfl) (by kernel_rfl) (by kernel_rfl) (by kernel_rfl) (fun _ _ _ _ h => h) rfl (wnt0 rfl) (fun wv h2 => r_bld rfl (bd62_0_1 _ _)) hS ?_
        refine Sx.da1 (i := 11) (by kernel_rfl) ?_
        refine Sx.wy rfl (wnt0 rfl) (y_bs rfl (bs25_1 _ _)) rfl ?_
        rintro _ w28 ⟨b28, rfl, n28, x28⟩
        have l28_x4 : b4 < b28 := Nat.lt_of_lt_of_le x4.lt n28.ge
        have l28_x1 : b1 < b28 := Nat.lt_of_lt_of_le x1.lt n28.ge
        have l28_ht : T < b28 := Nat.lt_of_lt_of_le (tape_lt ht) n28.ge
        have f28_own0 := fresh_own own0 n28.ge
        have f28_own1 := fresh_own own1 n28.ge
        have f28_own2 := fresh_own own2 n28.ge
        have g28 : w.heap.size ≤ b28 := Nat.le_trans E.size n28.ge
        replace x4 := x4.nw n28.r
        replace x1 := x1.nw n28.r
        replace ht := tape_rel ht n28.r (fun _ _ h => h)
        replace own0 := own_nw own0 n28.r
        replace own1 := own_nw own1 n28.r
        replace own2 := own_nw own2 n28.r
        replace E := E.then n28.r (fun _ _ h => h.elim)
        have q_x28 := x28.lt
        replace hS : Rel (fun x => x = T ∨ w25.heap.size ≤ x ∨ some x = ((Value.slice A3 m.length c3)).ownBlock) w25 w28 ∧ TapeOk w28 T := ⟨hS.1.then n28.r (fun _ _ h => h.elim), ht⟩
        refine ⟨.inr hS, ?_⟩
        refine Sx.da1 (i := 12) (by kernel_rfl) ?_
        refine Sx.wy rfl (wnt0 rfl) (y_app Tryd.underlying25 zi62 rfl (by decide) (by decide) rfl rfl own2 x28 rfl rfl (by omega) (by have := E.size; omega)) rfl ?_
        rintro _ w29 ⟨A29, c29, rfl, o29, r29, a29⟩
        replace x4 := x4.rel r29 (by first | assumption | exact own_not own2 x4 (by decide) | exact own_far own2 (by omega))
        replace x1 := x1.rel r29 (by first | assumption | exact own_not own2 x1 (by decide) | exact own_far own2 (by omega))
        replace ht := tape_rel ht r29 (fun b hb e => by have := own_ge own2 e; omega)
        replace own0 := own_rel own0 r29 (fun q hq => own_apart own0 own2 (by decide) q hq)
        replace own1 := own_rel own1 r29 (fun q hq => own_apart own1 own2 (by decide) q hq)
        replace x28 := x28.rel r29 (by first | assumption | exact own_not own2 x28 (by decide) | exact own_far own2 (by omega))
        replace E := E.then r29 (fun x hx e => show x = T ∨ w.heap.size ≤ x by have := own_ge own2 e; omega)
        replace hS : Rel (fun x => x = T ∨ w25.heap.size ≤ x ∨ some x = ((Value.slice A3 m.length c3)).ownBlock) w25 w29 ∧ TapeOk w29 T := ⟨hS.1.then r29 (fun x hx e => show x = T ∨ w25.heap.size ≤ x ∨ some x = ((Value.slice A3 m.length c3)).ownBlock from .inr (.inr (e))), ht⟩
        replace own2 := o29; clear o29
        refine ⟨.inr hS, ?_⟩
        refine Sx.dt (i := 13) rfl (by kernel_rfl) (by kernel_rfl) (by kernel_rfl) (by kernel_rfl) (fun _ _ _ _ h => h) rfl (wnt0 rfl) (fun wv h2 => r_fa fo27_4 rfl) hS ?_
        refine Sx.da1 (i := 14) (by kernel_rfl) ?_
        refine Sx.wyu rfl (wnt0 rfl) (u_st sz25 rfl rfl rfl rfl x4 rfl) rfl ?_
        rintro w30 ⟨r30, z30, x30n⟩
        replace x1 := x1.ch r30 (by omega)
        replace ht := tape_rel ht r30 (fun b hb (e : b = b4) => by omega)
        replace own0 := own_rel own0 r30 (fun q hq (e : q = b4) => by subst e; first | exact own_not own0 (by assumption) (by decide) hq.symm | exact own_far own0 (by omega) hq.symm)
        replace own1 := own_rel own1 r30 (fun q hq (e : q = b4) => by subst e; first | exact own_not own1 (by assumption) (by decide) hq.symm | exact own_far own1 (by omega) hq.symm)
        replace own2 := own_rel own2 r30 (fun q hq (e : q = b4) => by subst e; first | exact own_not own2 (by assumption) (by decide) hq.symm | exact own_far own2 (by omega) hq.symm)
        replace x28 := x28.ch r30 (by omega)
        replace E := E.then r30 (fun x hx (e : x = b4) => show x = T ∨ w.heap.size ≤ x by omega)
        replace x4 := x30n; clear x30n
        refine ⟨.inl rfl, ?_⟩
        refine Sx.dz (by kernel_rfl) ?_
        clear hS d_x4 d_x1
        refine Sx.nB ?_
        refine Sx.nT ?_
        refine Sx.reg ?_
        refine Sx.sv (r_mv rfl) rfl (wnt0 rfl) ?_
        refine Sx.sv (r_sub rfl rfl (by omega) (by omega)) rfl (wnt0 rfl) ?_
        refine Sx.sv (r_as rfl) rfl (wnt0 rfl) ?_
        refine wnil ?_
        refine Sx.nT ?_
        have hle : (m ++ [(⟨z26, z27⟩ : T2)]).length = m.length + 1 := by simp
        exact Sx.lpe (⟨j - 1, m ++ [(⟨z26, z27⟩ : T2)], A29, c29⟩) ⟨by rw [show ((j - 1 : Nat) : Int) = (j : Int) - 1 by omega]; rfl, rfl, rfl, rfl, trivial⟩ ⟨by omega, by rw [hle]; omega, (fun y hy => by rcases List.mem_append.1 hy with hy | hy; exact hok2 y hy; rw [List.mem_singleton] at hy; subst hy; exact ⟨(show (0 : Int) ≤ z26 by omega), (show z26 < z2 by omega), (show (0 : Int) ≤ z27 by omega), (show z27 < z2 by omega)⟩), by rw [hle]; exact x4, by rw [v2_snoc, hle]; exact own2, own0, own1, x1, E, ht⟩ (show j - 1 < j by omega)
      · skip
        refine Sx.cf rfl (decide_eq_false (by omega)) ?_
        refine wp_exit ?_
        refine Sx.eT ?_
        refine Sx.eT ?_
        refine Sx.eB ?_
        refine Sx.nT ?_
        refine Sx.seq ?_
        refine Sx.reg ?_
        refine Sx.sv (r_ldr ty27 rfl (x4.seg) rfl) rfl (wnt0 rfl) ?_
        refine Sx.syu (u_stR ty27 rfl rfl rfl x1 rfl rfl) rfl (wnt0 rfl) ?_
        rintro w31 ⟨r31, z31, x31n⟩
        replace x4 := x4.ch r31 (by omega)
        replace ht := tape_rel ht r31 (fun b hb (e : b = b1) => by omega)
        replace own0 := own_rel own0 r31 (fun q hq (e : q = b1) => by subst e; first | exact own_not own0 (by assumption) (by decide) hq.symm | exact own_far own0 (by omega) hq.symm)
        replace own1 := own_rel own1 r31 (fun q hq (e : q = b1) => by subst e; first | exact own_not own1 (by assumption) (by decide) hq.symm | exact own_far own1 (by omega) hq.symm)
        replace own2 := own_rel own2 r31 (fun q hq (e : q = b1) => by subst e; first | exact own_not own2 (by assumption) (by decide) hq.symm | exact own_far own2 (by omega) hq.symm)
        replace E := E.then r31 (fun x hx (e : x = b1) => show x = T ∨ w.heap.size ≤ x by omega)
        replace x1 := x31n; clear x31n
        refine wnil ?_
        refine Sx.nT ?_
        refine wp_ret ?_
        refine Sx.retc Tryd.results9 rfl ty27 rfl x1.seg ?_
        exact ⟨⟨z2, z3, g, s, m⟩, ⟨A1, c1, A2, c2, A3, c3⟩, rfl, ⟨by show (1 : Int) ≤ _; omega, by show _ ≤ (6 : Int); omega, by show (1 : Int) ≤ _; omega, by show _ ≤ (5 : Int); omega, by show g.length ≤ 7; omega, by show s.length ≤ 4; omega, by show m.length ≤ 3; omega, hok0, hok1, hok2⟩, ⟨row_of_own own0, row_of_own own1, row_of_own own2⟩, E.toT, ht⟩
end Go.Proofs.YtahggnlmabdbbaaDoor.Di
