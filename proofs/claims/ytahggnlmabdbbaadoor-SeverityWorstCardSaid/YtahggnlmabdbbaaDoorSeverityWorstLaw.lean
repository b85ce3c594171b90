/-
  The Go function leakresponse/leakresponselaw31.SeverityWorst returns true for every input, and leaves what was there as it was; the bounds of the levels lie as the program's text lays them. No severity is worse than the worst one, and none before it as bad.
-/
import Derived.Test.YtahggnlmabdbbaaDoorSvD
import Derived.Test.YtahggnlmabdbbaaDoorRows
import Derived.Test.YtahggnlmabdbbaaDoorCards
import Derived.Test.YtahggnlmabdbbaaDoorTie
import Derived.SevenTiedAt
namespace Go.Proofs.YtahggnlmabdbbaaDoor.severityWorst
open Go.ChangeShapes Go.WideShapes Go.ChangeAt Go.RowKit Go.Shelf Go.Maps
open Go.ChangeMaps (open_string shut_string)
open Go.Proofs.YtahggnlmabdbbaaDoor.Tp
open Go.Proofs.YtahggnlmabdbbaaDoor.Di
open Go.Proofs.YtahggnlmabdbbaaDoor.Sx
set_option linter.unusedVariables false

theorem v4_snoc' (l : List T4) (y : T4) : v4 (l ++ [y]) = v4 l ++ [.int .i64 y.a, .int .i64 y.b, .int .i64 y.c, .int .i64 y.d] := by
  induction l with
  | nil => rfl
  | cons a l ih => rw [List.cons_append, v4, v4, ih]; simp
set_option maxRecDepth 100000 in
set_option maxHeartbeats 16000000 in
theorem walk (a0 : Option Addr) (len0 cap0 : Nat) (z0 : List Int) (w : World) (w0 : IsRow .i64 w a0 len0 cap0 z0) (hT : Me w 0 0 TB) :
    Calls Tryd.prog 6 #[.slice a0 len0 cap0] w fun e w' => e = .returned (.bool true) ∧ Below w.heap.size w w' := by
  have hm0 := w0.at_.1
  unfold maxLen at hm0
  have E : Rel (fun x => w.heap.size ≤ x) w w := Rel.refl _ _
  refine Sx.enter Tryd.func6 rfl Tryd.ntmps6 rfl (fun fr => ?_)
  refine Sx.seq ?_
  refine Sx.reg ?_
  refine Sx.sv (r_as rfl) rfl (wnt0 rfl) ?_
  refine wnil ?_
  refine Sx.nT ?_
  refine Sx.seq ?_
  refine Sx.seq ?_
  refine Sx.reg ?_
  refine Sx.sv (r_mv rfl) rfl (wnt0 rfl) ?_
  refine Sx.sv (r_ln Tryd.underlying22 rfl) rfl (wnt0 rfl) ?_
  refine Sx.sv (r_gt rfl rfl) rfl (wnt0 rfl) ?_
  refine wnil ?_
  refine Sx.nT ?_
  by_cases hlen : 300 < len0
  · refine Sx.ct rfl (decide_eq_true (by omega)) ?_
    refine Sx.seq ?_
    refine Sx.reg ?_
    refine Sx.sc (r_call en8 rfl) rfl (wnt0 rfl) (awake_any _ hT) ?_
    rintro e w1 ⟨rfl, hb1⟩
    refine ⟨_, rfl, ?_⟩
    have r1 := Rel.of0 hb1
    replace hT := hT.nw r1
    replace E := E.then r1 (fun _ _ h => h.elim)
    refine Sx.sv (r_as rfl) rfl (wnt0 rfl) ?_
    refine wnil ?_
    refine Sx.nT ?_
    refine wp_ret ?_
    refine Sx.rT ?_
    exact Sx.ret1 Tryd.results6 rfl ⟨rfl, E.toB0⟩
  · skip
    refine Sx.cf rfl (decide_eq_false (by omega)) ?_
    refine wp_skip ?_
    refine Sx.nT ?_
    refine Sx.seq ?_
    refine Sx.reg ?_
    refine Sx.sv (r_mv rfl) rfl (wnt0 rfl) ?_
    refine Sx.sv (r_bld rfl (bd32_0 _ _ _)) rfl (wnt0 rfl) ?_
    refine Sx.sy (y_box rfl rfl) rfl (wnt0 rfl) ?_
    rintro _ w2 ⟨b2, rfl, n2, x2⟩
    have l2_hT : 0 < b2 := Nat.lt_of_lt_of_le hT.lt n2.ge
    have g2 : w.heap.size ≤ b2 := Nat.le_trans E.size n2.ge
    replace hT := hT.nw n2.r
    replace E := E.then n2.r (fun _ _ h => h.elim)
    refine Sx.sv (r_as rfl) rfl (wnt0 rfl) ?_
    refine wnil ?_
    refine Sx.nT ?_
    refine Sx.seq ?_
    refine Sx.reg ?_
    refine Sx.sv (r_as rfl) rfl (wnt0 rfl) ?_
    refine wnil ?_
    refine Sx.nT ?_
    refine Sx.seq ?_
    refine Sx.seq ?_
    refine Sx.reg ?_
    refine Sx.sv (r_mv rfl) rfl (wnt0 rfl) ?_
    have ht := tape_of w0 n2 x2
    have lT := x2.lt
    have tq3_ht := tape_lt ht
    refine Sx.sc (r_call en11 rfl) rfl (wnt0 rfl) (next_any b2 8 _ ht (by omega) (by omega)) ?_
    rintro e w3 ⟨z3, p3, q3, rfl, hg3, ht3⟩
    refine ⟨_, rfl, ?_⟩
    have r3 := Rel.ofT hg3
    replace hT := hT.ch r3 (by omega)
    replace E := E.then r3 (fun x hx (e : x = b2) => show w.heap.size ≤ x by omega)
    replace ht := ht3
    refine Sx.sv (r_as rfl) rfl (wnt0 rfl) ?_
    refine wnil ?_
    refine Sx.nT ?_
    refine Sx.blk ?_
    obtain ⟨j0, hj0⟩ : ∃ j0 : Nat, z3 = (j0 : Int) := ⟨z3.toNat, by omega⟩
    subst hj0
    have lT3 : b2 < w3.heap.size := tape_lt ht
    have t4_hT := hT.lt
    refine Sx.lp (Nat × List T4 × Option Addr × Nat) (fun ⟨j, l, A, c⟩ => [(5, .int .i64 (j : Int)), (4, .slice A l.length c), (3, .pointer (some ⟨b2, 0, none⟩))]) (fun ⟨j, l, A, c⟩ wr => Rel (fun x => x = b2 ∨ w3.heap.size ≤ x) w3 wr ∧ TapeOk wr b2 ∧ l.length + j ≤ 7 ∧ wr.ownsRow w3.heap.size 47 4 (.slice A l.length c) l.length (v4 l)) (fun ⟨j, l, A, c⟩ => j) ⟨j0, [], none, 0⟩ ⟨rfl, rfl, rfl, trivial⟩ ⟨Rel.refl _ _, ht, by simp only [List.length_nil]; omega, Sx.own_nil _ _ _ _⟩ ?_
    rintro ⟨j, l, A, c⟩ fr w4 ⟨E4, htn, hl7, own⟩
    show Code.wp _ _ _ (Fa fr [(5, .int .i64 (j : Int)), (4, .slice A l.length c), (3, .pointer (some ⟨b2, 0, none⟩))]) _
    replace hT := hT.rel E4 (show ¬ (0 = b2 ∨ w3.heap.size ≤ 0) by omega)
    replace ht := htn; clear htn
    have s4_E := E.size
    replace E := E.then E4 (fun x hx (e : x = b2 ∨ w3.heap.size ≤ x) => show w.heap.size ≤ x by omega)
    refine Sx.seq ?_
    refine Sx.seq ?_
    refine Sx.reg ?_
    refine Sx.sv (r_mv rfl) rfl (wnt0 rfl) ?_
    refine Sx.sv (r_gt rfl rfl) rfl (wnt0 rfl) ?_
    refine wnil ?_
    refine Sx.nT ?_
    by_cases hj : 0 < j
    · refine Sx.ct rfl (decide_eq_true (by omega)) ?_
      refine wp_skip ?_
      refine Sx.nT ?_
      refine Sx.seq ?_
      refine Sx.blk ?_
      refine Sx.seq ?_
      refine Sx.reg ?_
      refine Sx.sv (r_mv rfl) rfl (wnt0 rfl) ?_
      have tq5_ht := tape_lt ht
      refine Sx.sc (r_call en11 rfl) rfl (wnt0 rfl) (next_any b2 6 _ ht (by omega) (by omega)) ?_
      rintro e w5 ⟨z5, p5, q5, rfl, hg5, ht5⟩
      refine ⟨_, rfl, ?_⟩
      have r5 := Rel.ofT hg5
      replace hT := hT.ch r5 (by omega)
      replace own := own_rel own r5 (fun q hq (e : q = b2) => by subst e; first | exact absurd hq.symm (by assumption) | exact own_not own (by assumption) (by decide) hq.symm | exact own_far own (by omega) hq.symm)
      replace E := E.then r5 (fun x hx (e : x = b2) => show w.heap.size ≤ x by omega)
      replace E4 := E4.then r5 (fun x hx (e : x = b2) => show x = b2 ∨ w3.heap.size ≤ x by omega)
      replace ht := ht5
      refine Sx.sv (r_mv rfl) rfl (wnt0 rfl) ?_
      have tq6_ht := tape_lt ht
      refine Sx.sc (r_call en11 rfl) rfl (wnt0 rfl) (next_any b2 4 _ ht (by omega) (by omega)) ?_
      rintro e w6 ⟨z6, p6, q6, rfl, hg6, ht6⟩
      refine ⟨_, rfl, ?_⟩
      have r6 := Rel.ofT hg6
      replace hT := hT.ch r6 (by omega)
      replace own := own_rel own r6 (fun q hq (e : q = b2) => by subst e; first | exact absurd hq.symm (by assumption) | exact own_not own (by assumption) (by decide) hq.symm | exact own_far own (by omega) hq.symm)
      replace E := E.then r6 (fun x hx (e : x = b2) => show w.heap.size ≤ x by omega)
      replace E4 := E4.then r6 (fun x hx (e : x = b2) => show x = b2 ∨ w3.heap.size ≤ x by omega)
      replace ht := ht6
      have hmul := mul_b (A := 5) (B := 3) (a := z5) (b := z6) (by omega) (by omega) (by omega) (by omega)
      refine Sx.sv (r_bld rfl (bd47_1_2 _ _)) rfl (wnt0 rfl) ?_
      refine Sx.sy (y_all zi47 rfl) rfl (wnt0 rfl) ?_
      rintro _ w7 ⟨b7, rfl, n7, x7⟩
      have l7_hT : 0 < b7 := Nat.lt_of_lt_of_le hT.lt n7.ge
      have l7_ht : b2 < b7 := Nat.lt_of_lt_of_le (tape_lt ht) n7.ge
      have f7_own := fresh_own own n7.ge
      have g7 : w.heap.size ≤ b7 := Nat.le_trans E.size n7.ge
      have g7_E4 : w3.heap.size ≤ b7 := Nat.le_trans E4.size n7.ge
      replace hT := hT.nw n7.r
      replace ht := tape_rel ht n7.r (fun _ _ h => h)
      replace own := own_nw own n7.r
      replace E := E.then n7.r (fun _ _ h => h.elim)
      replace E4 := E4.then n7.r (fun _ _ h => h.elim)
      refine Sx.syu (u_stR ty47 rfl rfl rfl x7 rfl rfl) rfl (wnt0 rfl) ?_
      rintro w8 ⟨r8, z8, x8n⟩
      replace hT := hT.ch r8 (by omega)
      replace ht := tape_rel ht r8 (fun b hb (e : b = b7) => by omega)
      replace own := own_rel own r8 (fun q hq (e : q = b7) => by subst e; first | exact absurd hq.symm (by assumption) | exact own_not own (by assumption) (by decide) hq.symm | exact own_far own (by omega) hq.symm)
      replace E := E.then r8 (fun x hx (e : x = b7) => show w.heap.size ≤ x by omega)
      replace E4 := E4.then r8 (fun x hx (e : x = b7) => show x = b2 ∨ w3.heap.size ≤ x by omega)
      replace x7 := x8n; clear x8n
      refine wnil ?_
      refine Sx.nT ?_
      refine Sx.seq ?_
      refine Sx.reg ?_
      refine Sx.sv (r_fa fo47_1 rfl) rfl (wnt0 rfl) ?_
      refine Sx.sv (r_ld ty3 rfl (x7.seg) rfl) rfl (wnt0 rfl) ?_
      refine Sx.sv (r_fa fo47_2 rfl) rfl (wnt0 rfl) ?_
      refine Sx.sv (r_ld ty3 rfl (x7.seg) rfl) rfl (wnt0 rfl) ?_
      refine Sx.sv (r_mul rfl rfl (by omega) (by omega)) rfl (wnt0 rfl) ?_
      refine Sx.sv (r_fa fo47_3 rfl) rfl (wnt0 rfl) ?_
      refine Sx.syu (u_st sz3 rfl rfl rfl rfl x7 rfl) rfl (wnt0 rfl) ?_
      rintro w9 ⟨r9, z9, x9n⟩
      replace hT := hT.ch r9 (by omega)
      replace ht := tape_rel ht r9 (fun b hb (e : b = b7) => by omega)
      replace own := own_rel own r9 (fun q hq (e : q = b7) => by subst e; first | exact absurd hq.symm (by assumption) | exact own_not own (by assumption) (by decide) hq.symm | exact own_far own (by omega) hq.symm)
      replace E := E.then r9 (fun x hx (e : x = b7) => show w.heap.size ≤ x by omega)
      replace E4 := E4.then r9 (fun x hx (e : x = b7) => show x = b2 ∨ w3.heap.size ≤ x by omega)
      replace x7 := x9n; clear x9n
      refine wnil ?_
      refine Sx.nT ?_
      refine Sx.seq ?_
      refine Sx.reg ?_
      refine Sx.sv (r_fa fo47_3 rfl) rfl (wnt0 rfl) ?_
      refine Sx.sv (r_ld ty3 rfl (x7.seg) rfl) rfl (wnt0 rfl) ?_
      have tq10_ht := tape_lt ht
      refine Sx.sc (r_call en13 rfl) rfl (wnt0 rfl) (rlevel_any _ _) ?_
      rintro e w10 ⟨rfl, rfl⟩
      refine ⟨_, rfl, ?_⟩
      refine Sx.sv (r_fa fo47_0 rfl) rfl (wnt0 rfl) ?_
      refine Sx.syu (u_st sz3 rfl rfl rfl rfl x7 rfl) rfl (wnt0 rfl) ?_
      rintro w11 ⟨r11, z11, x11n⟩
      replace hT := hT.ch r11 (by omega)
      replace ht := tape_rel ht r11 (fun b hb (e : b = b7) => by omega)
      replace own := own_rel own r11 (fun q hq (e : q = b7) => by subst e; first | exact absurd hq.symm (by assumption) | exact own_not own (by assumption) (by decide) hq.symm | exact own_far own (by omega) hq.symm)
      replace E := E.then r11 (fun x hx (e : x = b7) => show w.heap.size ≤ x by omega)
      replace E4 := E4.then r11 (fun x hx (e : x = b7) => show x = b2 ∨ w3.heap.size ≤ x by omega)
      replace x7 := x11n; clear x11n
      refine wnil ?_
      refine Sx.nT ?_
      refine Sx.reg ?_
      refine Sx.sv (r_mv rfl) rfl (wnt0 rfl) ?_
      refine Sx.sv (r_ldr ty47 rfl (x7.seg) rfl) rfl (wnt0 rfl) ?_
      refine Sx.sy (y_bs rfl (bs28_1 _ _ _ _)) rfl (wnt0 rfl) ?_
      rintro _ w12 ⟨b12, rfl, n12, x12⟩
      have l12_hT : 0 < b12 := Nat.lt_of_lt_of_le hT.lt n12.ge
      have l12_ht : b2 < b12 := Nat.lt_of_lt_of_le (tape_lt ht) n12.ge
      have l12_x7 : b7 < b12 := Nat.lt_of_lt_of_le x7.lt n12.ge
      have f12_own := fresh_own own n12.ge
      have g12 : w.heap.size ≤ b12 := Nat.le_trans E.size n12.ge
      have g12_E4 : w3.heap.size ≤ b12 := Nat.le_trans E4.size n12.ge
      replace hT := hT.nw n12.r
      replace ht := tape_rel ht n12.r (fun _ _ h => h)
      replace own := own_nw own n12.r
      replace x7 := x7.nw n12.r
      replace E := E.then n12.r (fun _ _ h => h.elim)
      replace E4 := E4.then n12.r (fun _ _ h => h.elim)
      refine Sx.sy (y_app Tryd.underlying28 zi47 rfl (by decide) (by decide) rfl rfl own x12 rfl rfl (by omega) (by have := E.size; have := E4.size; omega)) rfl (wnt0 rfl) ?_
      rintro _ w13 ⟨A13, c13, rfl, o13, r13, a13⟩
      replace hT := hT.rel r13 (by first | assumption | exact own_far own (by omega))
      replace ht := tape_rel ht r13 (fun b hb e => by have := own_ge own e; omega)
      replace x7 := x7.rel r13 (by first | assumption | exact own_not own x7 (by decide) | exact own_far own (by omega))
      replace x12 := x12.rel r13 (by first | assumption | exact own_not own x12 (by decide) | exact own_far own (by omega))
      replace E := E.then r13 (fun x hx e => show w.heap.size ≤ x by have := own_ge own e; omega)
      replace E4 := E4.then r13 (fun x hx e => show x = b2 ∨ w3.heap.size ≤ x by have := own_ge own e; omega)
      replace own := o13; clear o13
      clear x12
      refine Sx.sv (r_as rfl) rfl (wnt0 rfl) ?_
      refine wnil ?_
      refine Sx.nB ?_
      refine Sx.nT ?_
      refine Sx.reg ?_
      refine Sx.sv (r_mv rfl) rfl (wnt0 rfl) ?_
      refine Sx.sv (r_sub rfl rfl (by omega) (by omega)) rfl (wnt0 rfl) ?_
      refine Sx.sv (r_as rfl) rfl (wnt0 rfl) ?_
      refine wnil ?_
      refine Sx.nT ?_
      have hle : (l ++ [(⟨lvl (z5 * z6), z5, z6, z5 * z6⟩ : T4)]).length = l.length + 1 := by simp
      exact Sx.lpe (⟨j - 1, l ++ [(⟨lvl (z5 * z6), z5, z6, z5 * z6⟩ : T4)], A13, c13⟩) ⟨by rw [show ((j - 1 : Nat) : Int) = (j : Int) - 1 by omega]; rfl, by rw [hle]; rfl, rfl, trivial⟩ ⟨E4, ht, by rw [hle]; omega, by rw [v4_snoc', hle]; exact own⟩ (show j - 1 < j by omega)
    · refine Sx.cf rfl (decide_eq_false (by omega)) ?_
      refine wp_exit ?_
      refine Sx.eT ?_
      refine Sx.eT ?_
      refine Sx.eB ?_
      refine Sx.nT ?_
      refine Sx.seq ?_
      refine Sx.reg ?_
      refine Sx.sv (r_mv rfl) rfl (wnt0 rfl) ?_
      have HL := Has.row (row_of_own own)
      refine Sx.sc (r_call en20 rfl) rfl (wnt0 rfl) (worst_any l A c _ (HL.ok.base (Nat.zero_le _)) (by omega)) ?_
      rintro e w14 ⟨rfl, hb14⟩
      refine ⟨_, rfl, ?_⟩
      have r14 := Rel.of0 hb14
      replace hT := hT.nw r14
      replace HL := HL.nw r14
      replace E := E.then r14 (fun _ _ h => h.elim)
      refine Sx.sv (r_mv rfl) rfl (wnt0 rfl) ?_
      refine Sx.sv (r_ex rfl rfl) rfl (wnt0 rfl) ?_
      refine Sx.sv (r_ex rfl rfl) rfl (wnt0 rfl) ?_
      refine Sx.sv (r_as rfl) rfl (wnt0 rfl) ?_
      refine Sx.sv (r_as rfl) rfl (wnt0 rfl) ?_
      refine wnil ?_
      refine Sx.nT ?_
      refine Sx.seq ?_
      refine Sx.seq ?_
      refine Sx.reg ?_
      refine Sx.sv (r_mv rfl) rfl (wnt0 rfl) ?_
      refine Sx.sv (r_mv rfl) rfl (wnt0 rfl) ?_
      refine Sx.sv (r_ln Tryd.underlying28 rfl) rfl (wnt0 rfl) ?_
      refine Sx.sv (r_gt rfl rfl) rfl (wnt0 rfl) ?_
      refine Sx.sv (r_neb Tryd.underlying4 rfl rfl) rfl (wnt0 rfl) ?_
      refine wnil ?_
      refine Sx.nT ?_
      refine Sx.cf rfl (by simp) ?_
      refine wp_skip ?_
      refine Sx.nT ?_
      refine Sx.seq ?_
      refine Sx.seq ?_
      refine Sx.reg ?_
      refine Sx.sv (r_mv rfl) rfl (wnt0 rfl) ?_
      refine Sx.sv (r_ln Tryd.underlying28 rfl) rfl (wnt0 rfl) ?_
      refine Sx.sv (r_mv rfl) rfl (wnt0 rfl) ?_
      refine wnil ?_
      refine Sx.nT ?_
      refine Sx.blk ?_
      have t15_hT := hT.lt
      have t15_HL := HL.le
      refine Sx.lp (Nat) (fun i => [(55, .int .i64 (i : Int)), (54, .int .i64 (l.length : Int)), (53, .slice A l.length c), (4, .slice A l.length c), (7, .int .i64 (wsN l l.length : Nat))]) (fun i wr => Rel (fun x => w14.heap.size ≤ x) w14 wr ∧ i ≤ l.length) (fun i => l.length - i) 0 ⟨rfl, rfl, rfl, rfl, rfl, trivial⟩ ⟨Rel.refl _ _, Nat.zero_le _⟩ ?_
      rintro i fr w15 ⟨E15, hi⟩
      show Code.wp _ _ _ (Fa fr [(55, .int .i64 (i : Int)), (54, .int .i64 (l.length : Int)), (53, .slice A l.length c), (4, .slice A l.length c), (7, .int .i64 (wsN l l.length : Nat))]) _
      replace hT := hT.rel E15 (show ¬ (w14.heap.size ≤ 0) by omega)
      replace HL := HL.rel E15 (fun x h1 h2 => show ¬ (w14.heap.size ≤ x) by omega)
      have s15_E := E.size
      replace E := E.then E15 (fun x hx (e : w14.heap.size ≤ x) => show w.heap.size ≤ x by omega)
      refine Sx.seq ?_
      refine Sx.reg ?_
      refine Sx.sv (r_lt rfl rfl) rfl (wnt0 rfl) ?_
      refine wnil ?_
      refine Sx.nT ?_
      refine Sx.seq ?_
      by_cases hlt : i < l.length
      · refine Sx.ct rfl (decide_eq_true (by omega)) ?_
        have hws := wsN_lt l (Nat.le_refl l.length) (show 0 < l.length by omega)
        have hmx := wsN_max l hlt
        obtain ⟨ba, oa, hA1, -, hba, hca⟩ := HL.ok.t4 hlt
        obtain ⟨bp, op, hA2, -, hbp, hcp⟩ := HL.ok.t4 hws
        have e12 := hA1.symm.trans hA2
        simp only [Option.some.injEq, Addr.mk.injEq] at e12
        obtain ⟨rfl, rfl, -⟩ := e12
        have m1 : Me _ ba (oa + i * 4) [_, _, _, _] := ⟨hba, hca.seg⟩
        have m2 : Me _ ba (oa + wsN l l.length * 4) [_, _, _, _] := ⟨hbp, hcp.seg⟩
        refine wp_skip ?_
        refine Sx.nT ?_
        refine Sx.seq ?_
        refine Sx.blk ?_
        refine Sx.seq ?_
        refine Sx.reg ?_
        refine Sx.sv (r_mv rfl) rfl (wnt0 rfl) ?_
        refine Sx.sv (r_ixi ix28 rfl (by first | rfl | assumption) rfl (by first | rfl | assumption) (by omega)) rfl (wnt0 rfl) ?_
        refine Sx.sv (r_ldr ty47 rfl (m1.seg) rfl) rfl (wnt0 rfl) ?_
        refine Sx.sy (y_all zi47 rfl) rfl (wnt0 rfl) ?_
        rintro _ w16 ⟨b16, rfl, n16, x16⟩
        have l16_hT : 0 < b16 := Nat.lt_of_lt_of_le hT.lt n16.ge
        have l16_HL : w4.heap.size ≤ b16 := Nat.le_trans HL.le n16.ge
        have l16_m1 : ba < b16 := Nat.lt_of_lt_of_le m1.lt n16.ge
        have l16_m2 : ba < b16 := Nat.lt_of_lt_of_le m2.lt n16.ge
        have g16 : w.heap.size ≤ b16 := Nat.le_trans E.size n16.ge
        have g16_E15 : w14.heap.size ≤ b16 := Nat.le_trans E15.size n16.ge
        replace hT := hT.nw n16.r
        replace HL := HL.nw n16.r
        replace m1 := m1.nw n16.r
        replace m2 := m2.nw n16.r
        replace E := E.then n16.r (fun _ _ h => h.elim)
        replace E15 := E15.then n16.r (fun _ _ h => h.elim)
        refine Sx.sv (r_as rfl) rfl (wnt0 rfl) ?_
        refine Sx.syu (u_stR ty47 rfl rfl rfl x16 rfl rfl) rfl (wnt0 rfl) ?_
        rintro w17 ⟨r17, z17, x17n⟩
        replace hT := hT.ch r17 (by omega)
        replace HL := HL.ch r17 (by omega)
        replace m1 := m1.ch r17 (by omega)
        replace m2 := m2.ch r17 (by omega)
        replace E := E.then r17 (fun x hx (e : x = b16) => show w.heap.size ≤ x by omega)
        replace E15 := E15.then r17 (fun x hx (e : x = b16) => show w14.heap.size ≤ x by omega)
        replace x16 := x17n; clear x17n
        refine wnil ?_
        refine Sx.nT ?_
        refine Sx.seq ?_
        by_cases hw1 : i < wsN l l.length
        · have hfi := wsN_first l hw1
          refine Sx.drg 33 (fun w18 wv => Rel (fun x => False) w18 wv) mx (fun w18 hd => ?_)
          replace hT := hT.nw hd
          replace HL := HL.nw hd
          replace m1 := m1.nw hd
          replace m2 := m2.nw hd
          replace x16 := x16.nw hd
          replace E := E.then hd (fun _ _ h => h.elim)
          replace E15 := E15.then hd (fun _ _ h => h.elim)
          have sd18_E := E.size
          have sd18_E15 := E15.size
          have q_hT := hT.lt
          have q_HL := HL.le
          have q_m1 := m1.lt
          have q_m2 := m2.lt
          have q_x16 := x16.lt
          have d_hT := hT
          have d_HL := HL
          have d_m1 := m1
          have d_m2 := m2
          have d_x16 := x16
          have hS : Rel (fun x => False) w18 w18 := Rel.refl _ _
          refine Sx.dt (i := 0) rfl (by kernel_rfl) (by kernel_rfl) (by kernel_rfl) (by kernel_rfl) (fun _ _ _ _ h => h) rfl (wnt0 rfl) (fun wv h2 => r_mv rfl) hS ?_
          refine Sx.dt (i := 1) rfl (by kernel_rfl) (by kernel_rfl) (by kernel_rfl) (by kernel_rfl) (fun _ _ _ _ h => h) rfl (wnt0 rfl) (fun wv h2 => r_lt rfl rfl) hS ?_
          refine Sx.dt (i := 2) rfl (by kernel_rfl) (by kernel_rfl) (by kernel_rfl) (by kernel_rfl) (fun _ _ _ _ h => h) rfl (wnt0 rfl) (fun wv h2 => r_mv rfl) hS ?_
          refine Sx.dt (i := 3) rfl (by kernel_rfl) (by kernel_rfl) (by kernel_rfl) (by kernel_rfl) (fun _ _ _ _ h => h) rfl (wnt1 (dj := 62) (b0 := false) rfl rfl rfl rfl (decide_eq_false (by omega)) rfl) (fun wv h2 => r_mv rfl) hS ?_
          refine Sx.dt (i := 4) rfl (by kernel_rfl) (by kernel_rfl) (by kernel_rfl) (by kernel_rfl) (fun _ _ _ _ h => h) rfl (wnt1 (dj := 62) (b0 := false) rfl rfl rfl rfl (decide_eq_false (by omega)) rfl) (fun wv h2 => r_mv rfl) hS ?_
          refine Sx.dt (i := 5) rfl (by kernel_rfl) (by kernel_rfl) (by kernel_rfl) (by kernel_rfl) (fun _ _ _ _ h => h) rfl (wnt1 (dj := 62) (b0 := false) rfl rfl rfl rfl (decide_eq_false (by omega)) rfl) (fun wv h2 => r_ln Tryd.underlying28 rfl) hS ?_
          refine Sx.dt (i := 6) rfl (by kernel_rfl) (by kernel_rfl) (by kernel_rfl) (by kernel_rfl) (fun _ _ _ _ h => h) rfl (wnt1 (dj := 62) (b0 := false) rfl rfl rfl rfl (decide_eq_false (by omega)) rfl) (fun wv h2 => r_ge rfl rfl) hS ?_
          refine Sx.dt (i := 7) rfl (by kernel_rfl) (by kernel_rfl) (by kernel_rfl) (by kernel_rfl) (fun _ _ _ _ h => h) rfl (wnt0 rfl) (fun wv h2 => r_pkF rfl (decide_eq_false (by omega)) rfl) hS ?_
          refine Sx.dt (i := 8) rfl (by kernel_rfl) (by kernel_rfl) (by kernel_rfl) (by kernel_rfl) (fun _ _ _ _ h => h) rfl (wnt0 rfl) (fun wv h2 => r_mv rfl) hS ?_
          refine Sx.dt (i := 9) rfl (by kernel_rfl) (by kernel_rfl) (by kernel_rfl) (by kernel_rfl) (fun _ _ _ _ h => h) rfl (wnt1 (dj := 68) (b0 := false) rfl rfl rfl rfl (decide_eq_false (by omega)) rfl) (fun wv h2 => r_fa fo47_3 rfl) hS ?_
          refine Sx.dt (i := 11) rfl (by kernel_rfl) (by kernel_rfl) (by kernel_rfl) (by kernel_rfl) (fun _ _ _ _ h => h) rfl (wnt1 (dj := 68) (b0 := false) rfl rfl rfl rfl (decide_eq_false (by omega)) rfl) (fun wv h2 => r_mv rfl) hS ?_
          refine Sx.dt (i := 12) rfl (by kernel_rfl) (by kernel_rfl) (by kernel_rfl) (by kernel_rfl) (fun _ _ _ _ h => h) rfl (wnt1 (dj := 68) (b0 := false) rfl rfl rfl rfl (decide_eq_false (by omega)) rfl) (fun wv h2 => r_mv rfl) hS ?_
          refine Sx.dt (i := 10) rfl (by kernel_rfl) (by kernel_rfl) (by kernel_rfl) (by kernel_rfl) (fun _ _ _ _ h => h) rfl (wnt1 (dj := 68) (b0 := false) rfl rfl rfl rfl (decide_eq_false (by omega)) rfl) (fun wv h2 => r_ld ty3 rfl ((d_x16.rel h2 (show ¬ (False) from id)).seg) rfl) hS ?_
          refine Sx.dt (i := 13) rfl (by kernel_rfl) (by kernel_rfl) (by kernel_rfl) (by kernel_rfl) (fun _ _ _ _ h => h) rfl (wnt1 (dj := 68) (b0 := false) rfl rfl rfl rfl (decide_eq_false (by omega)) rfl) (fun wv h2 => r_ixi ix28 rfl (by first | rfl | assumption) rfl (by first | rfl | assumption) (by omega)) hS ?_
          refine Sx.dt (i := 14) rfl (by kernel_rfl) (by kernel_rfl) (by kernel_rfl) (by kernel_rfl) (fun _ _ _ _ h => h) rfl (wnt1 (dj := 68) (b0 := false) rfl rfl rfl rfl (decide_eq_false (by omega)) rfl) (fun wv h2 => r_fa fo47_3 rfl) hS ?_
          refine Sx.dt (i := 15) rfl (by kernel_rfl) (by kernel_rfl) (by kernel_rfl) (by kernel_rfl) (fun _ _ _ _ h => h) rfl (wnt1 (dj := 68) (b0 := false) rfl rfl rfl rfl (decide_eq_false (by omega)) rfl) (fun wv h2 => r_ld ty3 rfl ((d_m2.rel h2 (show ¬ (False) from id)).seg) rfl) hS ?_
          refine Sx.dt (i := 16) rfl (by kernel_rfl) (by kernel_rfl) (by kernel_rfl) (by kernel_rfl) (fun _ _ _ _ h => h) rfl (wnt1 (dj := 68) (b0 := false) rfl rfl rfl rfl (decide_eq_false (by omega)) rfl) (fun wv h2 => r_gt rfl rfl) hS ?_
          refine Sx.dt (i := 17) rfl (by kernel_rfl) (by kernel_rfl) (by kernel_rfl) (by kernel_rfl) (fun _ _ _ _ h => h) rfl (wnt0 rfl) (fun wv h2 => r_pkF rfl (decide_eq_false (by omega)) rfl) hS ?_
          refine Sx.dt (i := 18) rfl (by kernel_rfl) (by kernel_rfl) (by kernel_rfl) (by kernel_rfl) (fun _ _ _ _ h => h) rfl (wnt0 rfl) (fun wv h2 => r_mv rfl) hS ?_
          refine Sx.dt (i := 19) rfl (by kernel_rfl) (by kernel_rfl) (by kernel_rfl) (by kernel_rfl) (fun _ _ _ _ h => h) rfl (wnt1 (dj := 78) (b0 := false) rfl rfl rfl rfl (decide_eq_false (by omega)) rfl) (fun wv h2 => r_mv rfl) hS ?_
          refine Sx.dt (i := 20) rfl (by kernel_rfl) (by kernel_rfl) (by kernel_rfl) (by kernel_rfl) (fun _ _ _ _ h => h) rfl (wnt1 (dj := 78) (b0 := false) rfl rfl rfl rfl (decide_eq_false (by omega)) rfl) (fun wv h2 => r_mv rfl) hS ?_
          refine Sx.dt (i := 21) rfl (by kernel_rfl) (by kernel_rfl) (by kernel_rfl) (by kernel_rfl) (fun _ _ _ _ h => h) rfl (wnt1 (dj := 78) (b0 := false) rfl rfl rfl rfl (decide_eq_false (by omega)) rfl) (fun wv h2 => r_lt rfl rfl) hS ?_
          refine Sx.dt (i := 22) rfl (by kernel_rfl) (by kernel_rfl) (by kernel_rfl) (by kernel_rfl) (fun _ _ _ _ h => h) rfl (wnt1 (dj := 78) (b0 := false) rfl rfl rfl rfl (decide_eq_false (by omega)) rfl) (fun wv h2 => r_mv rfl) hS ?_
          refine Sx.dt (i := 23) rfl (by kernel_rfl) (by kernel_rfl) (by kernel_rfl) (by kernel_rfl) (fun _ _ _ _ h => h) rfl (wnt1 (dj := 82) (b0 := true) rfl rfl rfl rfl (decide_eq_true (by omega)) rfl) (fun wv h2 => r_fa fo47_3 rfl) hS ?_
          refine Sx.dt (i := 25) rfl (by kernel_rfl) (by kernel_rfl) (by kernel_rfl) (by kernel_rfl) (fun _ _ _ _ h => h) rfl (wnt1 (dj := 82) (b0 := true) rfl rfl rfl rfl (decide_eq_true (by omega)) rfl) (fun wv h2 => r_mv rfl) hS ?_
          refine Sx.dt (i := 26) rfl (by kernel_rfl) (by kernel_rfl) (by kernel_rfl) (by kernel_rfl) (fun _ _ _ _ h => h) rfl (wnt1 (dj := 82) (b0 := true) rfl rfl rfl rfl (decide_eq_true (by omega)) rfl) (fun wv h2 => r_mv rfl) hS ?_
          refine Sx.dt (i := 24) rfl (by kernel_rfl) (by kernel_rfl) (by kernel_rfl) (by kernel_rfl) (fun _ _ _ _ h => h) rfl (wnt1 (dj := 82) (b0 := true) rfl rfl rfl rfl (decide_eq_true (by omega)) rfl) (fun wv h2 => r_ld ty3 rfl ((d_x16.rel h2 (show ¬ (False) from id)).seg) rfl) hS ?_
          refine Sx.dt (i := 27) rfl (by kernel_rfl) (by kernel_rfl) (by kernel_rfl) (by kernel_rfl) (fun _ _ _ _ h => h) rfl (wnt1 (dj := 82) (b0 := true) rfl rfl rfl rfl (decide_eq_true (by omega)) rfl) (fun wv h2 => r_ixi ix28 rfl (by first | rfl | assumption) rfl (by first | rfl | assumption) (by omega)) hS ?_
          refine Sx.dt (i := 28) rfl (by kernel_rfl) (by kernel_rfl) (by kernel_rfl) (by kernel_rfl) (fun _ _ _ _ h => h) rfl (wnt1 (dj := 82) (b0 := true) rfl rfl rfl rfl (decide_eq_true (by omega)) rfl) (fun wv h2 => r_fa fo47_3 rfl) hS ?_
          refine Sx.dt (i := 29) rfl (by kernel_rfl) (by kernel_rfl) (by kernel_rfl) (by kernel_rfl) (fun _ _ _ _ h => h) rfl (wnt1 (dj := 82) (b0 := true) rfl rfl rfl rfl (decide_eq_true (by omega)) rfl) (fun wv h2 => r_ld ty3 rfl ((d_m2.rel h2 (show ¬ (False) from id)).seg) rfl) hS ?_
          refine Sx.dt (i := 30) rfl (by kernel_rfl) (by kernel_rfl) (by kernel_rfl) (by kernel_rfl) (fun _ _ _ _ h => h) rfl (wnt1 (dj := 82) (b0 := true) rfl rfl rfl rfl (decide_eq_true (by omega)) rfl) (fun wv h2 => r_eq rfl rfl) hS ?_
          refine Sx.dt (i := 31) rfl (by kernel_rfl) (by kernel_rfl) (by kernel_rfl) (by kernel_rfl) (fun _ _ _ _ h => h) rfl (wnt1 (dj := 78) (b0 := false) rfl rfl rfl rfl (decide_eq_false (by omega)) rfl) (fun wv h2 => r_pkT rfl (decide_eq_true (by omega)) rfl) hS ?_
          refine Sx.dt (i := 32) rfl (by kernel_rfl) (by kernel_rfl) (by kernel_rfl) (by kernel_rfl) (fun _ _ _ _ h => h) rfl (wnt0 rfl) (fun wv h2 => r_pkF rfl (decide_eq_false (by omega)) rfl) hS ?_
          refine Sx.dz (by kernel_rfl) ?_
          clear hS d_hT d_HL d_m1 d_m2 d_x16
          refine Sx.nT ?_
          refine Sx.cf rfl (decide_eq_false (by omega)) ?_
          refine wp_skip ?_
          refine Sx.nB ?_
          refine Sx.nT ?_
          refine Sx.reg ?_
          refine Sx.sv (r_add rfl rfl (by omega) (by omega)) rfl (wnt0 rfl) ?_
          refine Sx.sv (r_mv rfl) rfl (wnt0 rfl) ?_
          refine wnil ?_
          refine Sx.nT ?_
          exact Sx.lpe (i + 1) ⟨rfl, rfl, rfl, rfl, rfl, trivial⟩ ⟨E15, hlt⟩ (show _ - (i + 1) < _ - i by omega)
        · refine Sx.drg 33 (fun w19 wv => Rel (fun x => False) w19 wv) mx (fun w19 hd => ?_)
          replace hT := hT.nw hd
          replace HL := HL.nw hd
          replace m1 := m1.nw hd
          replace m2 := m2.nw hd
          replace x16 := x16.nw hd
          replace E := E.then hd (fun _ _ h => h.elim)
          replace E15 := E15.then hd (fun _ _ h => h.elim)
          have sd19_E := E.size
          have sd19_E15 := E15.size
          have q_hT := hT.lt
          have q_HL := HL.le
          have q_m1 := m1.lt
          have q_m2 := m2.lt
          have q_x16 := x16.lt
          have d_hT := hT
          have d_HL := HL
          have d_m1 := m1
          have d_m2 := m2
          have d_x16 := x16
          have hS : Rel (fun x => False) w19 w19 := Rel.refl _ _
          refine Sx.dt (i := 0) rfl (by kernel_rfl) (by kernel_rfl) (by kernel_rfl) (by kernel_rfl) (fun _ _ _ _ h => h) rfl (wnt0 rfl) (fun wv h2 => r_mv rfl) hS ?_
          refine Sx.dt (i := 1) rfl (by kernel_rfl) (by kernel_rfl) (by kernel_rfl) (by kernel_rfl) (fun _ _ _ _ h => h) rfl (wnt0 rfl) (fun wv h2 => r_lt rfl rfl) hS ?_
          refine Sx.dt (i := 2) rfl (by kernel_rfl) (by kernel_rfl) (by kernel_rfl) (by kernel_rfl) (fun _ _ _ _ h => h) rfl (wnt0 rfl) (fun wv h2 => r_mv rfl) hS ?_
          refine Sx.dt (i := 3) rfl (by kernel_rfl) (by kernel_rfl) (by kernel_rfl) (by kernel_rfl) (fun _ _ _ _ h => h) rfl (wnt1 (dj := 62) (b0 := false) rfl rfl rfl rfl (decide_eq_false (by omega)) rfl) (fun wv h2 => r_mv rfl) hS ?_
          refine Sx.dt (i := 4) rfl (by kernel_rfl) (by kernel_rfl) (by kernel_rfl) (by kernel_rfl) (fun _ _ _ _ h => h) rfl (wnt1 (dj := 62) (b0 := false) rfl rfl rfl rfl (decide_eq_false (by omega)) rfl) (fun wv h2 => r_mv rfl) hS ?_
          refine Sx.dt (i := 5) rfl (by kernel_rfl) (by kernel_rfl) (by kernel_rfl) (by kernel_rfl) (fun _ _ _ _ h => h) rfl (wnt1 (dj := 62) (b0 := false) rfl rfl rfl rfl (decide_eq_false (by omega)) rfl) (fun wv h2 => r_ln Tryd.underlying28 rfl) hS ?_
          refine Sx.dt (i := 6) rfl (by kernel_rfl) (by kernel_rfl) (by kernel_rfl) (by kernel_rfl) (fun _ _ _ _ h => h) rfl (wnt1 (dj := 62) (b0 := false) rfl rfl rfl rfl (decide_eq_false (by omega)) rfl) (fun wv h2 => r_ge rfl rfl) hS ?_
          refine Sx.dt (i := 7) rfl (by kernel_rfl) (by kernel_rfl) (by kernel_rfl) (by kernel_rfl) (fun _ _ _ _ h => h) rfl (wnt0 rfl) (fun wv h2 => r_pkF rfl (decide_eq_false (by omega)) rfl) hS ?_
          refine Sx.dt (i := 8) rfl (by kernel_rfl) (by kernel_rfl) (by kernel_rfl) (by kernel_rfl) (fun _ _ _ _ h => h) rfl (wnt0 rfl) (fun wv h2 => r_mv rfl) hS ?_
          refine Sx.dt (i := 9) rfl (by kernel_rfl) (by kernel_rfl) (by kernel_rfl) (by kernel_rfl) (fun _ _ _ _ h => h) rfl (wnt1 (dj := 68) (b0 := false) rfl rfl rfl rfl (decide_eq_false (by omega)) rfl) (fun wv h2 => r_fa fo47_3 rfl) hS ?_
          refine Sx.dt (i := 11) rfl (by kernel_rfl) (by kernel_rfl) (by kernel_rfl) (by kernel_rfl) (fun _ _ _ _ h => h) rfl (wnt1 (dj := 68) (b0 := false) rfl rfl rfl rfl (decide_eq_false (by omega)) rfl) (fun wv h2 => r_mv rfl) hS ?_
          refine Sx.dt (i := 12) rfl (by kernel_rfl) (by kernel_rfl) (by kernel_rfl) (by kernel_rfl) (fun _ _ _ _ h => h) rfl (wnt1 (dj := 68) (b0 := false) rfl rfl rfl rfl (decide_eq_false (by omega)) rfl) (fun wv h2 => r_mv rfl) hS ?_
          refine Sx.dt (i := 10) rfl (by kernel_rfl) (by kernel_rfl) (by kernel_rfl) (by kernel_rfl) (fun _ _ _ _ h => h) rfl (wnt1 (dj := 68) (b0 := false) rfl rfl rfl rfl (decide_eq_false (by omega)) rfl) (fun wv h2 => r_ld ty3 rfl ((d_x16.rel h2 (show ¬ (False) from id)).seg) rfl) hS ?_
          refine Sx.dt (i := 13) rfl (by kernel_rfl) (by kernel_rfl) (by kernel_rfl) (by kernel_rfl) (fun _ _ _ _ h => h) rfl (wnt1 (dj := 68) (b0 := false) rfl rfl rfl rfl (decide_eq_false (by omega)) rfl) (fun wv h2 => r_ixi ix28 rfl (by first | rfl | assumption) rfl (by first | rfl | assumption) (by omega)) hS ?_
          refine Sx.dt (i := 14) rfl (by kernel_rfl) (by kernel_rfl) (by kernel_rfl) (by kernel_rfl) (fun _ _ _ _ h => h) rfl (wnt1 (dj := 68) (b0 := false) rfl rfl rfl rfl (decide_eq_false (by omega)) rfl) (fun wv h2 => r_fa fo47_3 rfl) hS ?_
          refine Sx.dt (i := 15) rfl (by kernel_rfl) (by kernel_rfl) (by kernel_rfl) (by kernel_rfl) (fun _ _ _ _ h => h) rfl (wnt1 (dj := 68) (b0 := false) rfl rfl rfl rfl (decide_eq_false (by omega)) rfl) (fun wv h2 => r_ld ty3 rfl ((d_m2.rel h2 (show ¬ (False) from id)).seg) rfl) hS ?_
          refine Sx.dt (i := 16) rfl (by kernel_rfl) (by kernel_rfl) (by kernel_rfl) (by kernel_rfl) (fun _ _ _ _ h => h) rfl (wnt1 (dj := 68) (b0 := false) rfl rfl rfl rfl (decide_eq_false (by omega)) rfl) (fun wv h2 => r_gt rfl rfl) hS ?_
          refine Sx.dt (i := 17) rfl (by kernel_rfl) (by kernel_rfl) (by kernel_rfl) (by kernel_rfl) (fun _ _ _ _ h => h) rfl (wnt0 rfl) (fun wv h2 => r_pkF rfl (decide_eq_false (by omega)) rfl) hS ?_
          refine Sx.dt (i := 18) rfl (by kernel_rfl) (by kernel_rfl) (by kernel_rfl) (by kernel_rfl) (fun _ _ _ _ h => h) rfl (wnt0 rfl) (fun wv h2 => r_mv rfl) hS ?_
          refine Sx.dt (i := 19) rfl (by kernel_rfl) (by kernel_rfl) (by kernel_rfl) (by kernel_rfl) (fun _ _ _ _ h => h) rfl (wnt1 (dj := 78) (b0 := false) rfl rfl rfl rfl (decide_eq_false (by omega)) rfl) (fun wv h2 => r_mv rfl) hS ?_
          refine Sx.dt (i := 20) rfl (by kernel_rfl) (by kernel_rfl) (by kernel_rfl) (by kernel_rfl) (fun _ _ _ _ h => h) rfl (wnt1 (dj := 78) (b0 := false) rfl rfl rfl rfl (decide_eq_false (by omega)) rfl) (fun wv h2 => r_mv rfl) hS ?_
          refine Sx.dt (i := 21) rfl (by kernel_rfl) (by kernel_rfl) (by kernel_rfl) (by kernel_rfl) (fun _ _ _ _ h => h) rfl (wnt1 (dj := 78) (b0 := false) rfl rfl rfl rfl (decide_eq_false (by omega)) rfl) (fun wv h2 => r_lt rfl rfl) hS ?_
          refine Sx.dt (i := 22) rfl (by kernel_rfl) (by kernel_rfl) (by kernel_rfl) (by kernel_rfl) (fun _ _ _ _ h => h) rfl (wnt1 (dj := 78) (b0 := false) rfl rfl rfl rfl (decide_eq_false (by omega)) rfl) (fun wv h2 => r_mv rfl) hS ?_
          refine Sx.dp (i := 23) rfl (by kernel_rfl) (by kernel_rfl) (by kernel_rfl) (by kernel_rfl) (fun _ _ _ _ h => h) rfl (wntF (dj := 82) (b0 := false) rfl rfl rfl rfl (decide_eq_false (by omega)) rfl) hS ?_
          refine Sx.dp (i := 25) rfl (by kernel_rfl) (by kernel_rfl) (by kernel_rfl) (by kernel_rfl) (fun _ _ _ _ h => h) rfl (wntF (dj := 82) (b0 := false) rfl rfl rfl rfl (decide_eq_false (by omega)) rfl) hS ?_
          refine Sx.dp (i := 26) rfl (by kernel_rfl) (by kernel_rfl) (by kernel_rfl) (by kernel_rfl) (fun _ _ _ _ h => h) rfl (wntF (dj := 82) (b0 := false) rfl rfl rfl rfl (decide_eq_false (by omega)) rfl) hS ?_
          refine Sx.dp (i := 24) rfl (by kernel_rfl) (by kernel_rfl) (by kernel_rfl) (by kernel_rfl) (fun _ _ _ _ h => h) rfl (wntF (dj := 82) (b0 := false) rfl rfl rfl rfl (decide_eq_false (by omega)) rfl) hS ?_
          refine Sx.dp (i := 27) rfl (by kernel_rfl) (by kernel_rfl) (by kernel_rfl) (by kernel_rfl) (fun _ _ _ _ h => h) rfl (wntF (dj := 82) (b0 := false) rfl rfl rfl rfl (decide_eq_false (by omega)) rfl) hS ?_
          refine Sx.dp (i := 28) rfl (by kernel_rfl) (by kernel_rfl) (by kernel_rfl) (by kernel_rfl) (fun _ _ _ _ h => h) rfl (wntF (dj := 82) (b0 := false) rfl rfl rfl rfl (decide_eq_false (by omega)) rfl) hS ?_
          refine Sx.dp (i := 29) rfl (by kernel_rfl) (by kernel_rfl) (by kernel_rfl) (by kernel_rfl) (fun _ _ _ _ h => h) rfl (wntF (dj := 82) (b0 := false) rfl rfl rfl rfl (decide_eq_false (by omega)) rfl) hS ?_
          refine Sx.dp (i := 30) rfl (by kernel_rfl) (by kernel_rfl) (by kernel_rfl) (by kernel_rfl) (fun _ _ _ _ h => h) rfl (wntF (dj := 82) (b0 := false) rfl rfl rfl rfl (decide_eq_false (by omega)) rfl) hS ?_
          refine Sx.dt (i := 31) rfl (by kernel_rfl) (by kernel_rfl) (by kernel_rfl) (by kernel_rfl) (fun _ _ _ _ h => h) rfl (wnt1 (dj := 78) (b0 := false) rfl rfl rfl rfl (decide_eq_false (by omega)) rfl) (fun wv h2 => r_pkF rfl (decide_eq_false (by omega)) rfl) hS ?_
          refine Sx.dt (i := 32) rfl (by kernel_rfl) (by kernel_rfl) (by kernel_rfl) (by kernel_rfl) (fun _ _ _ _ h => h) rfl (wnt0 rfl) (fun wv h2 => r_pkF rfl (decide_eq_false (by omega)) rfl) hS ?_
          refine Sx.dz (by kernel_rfl) ?_
          clear hS d_hT d_HL d_m1 d_m2 d_x16
          refine Sx.nT ?_
          refine Sx.cf rfl (rfl) ?_
          refine wp_skip ?_
          refine Sx.nB ?_
          refine Sx.nT ?_
          refine Sx.reg ?_
          refine Sx.sv (r_add rfl rfl (by omega) (by omega)) rfl (wnt0 rfl) ?_
          refine Sx.sv (r_mv rfl) rfl (wnt0 rfl) ?_
          refine wnil ?_
          refine Sx.nT ?_
          exact Sx.lpe (i + 1) ⟨rfl, rfl, rfl, rfl, rfl, trivial⟩ ⟨E15, hlt⟩ (show _ - (i + 1) < _ - i by omega)
      · refine Sx.cf rfl (decide_eq_false (by omega)) ?_
        refine wp_exit ?_
        refine Sx.eT ?_
        refine Sx.eT ?_
        refine Sx.eB ?_
        refine Sx.nT ?_
        refine Sx.seq ?_
        refine Sx.reg ?_
        refine Sx.sc (r_call en8 rfl) rfl (wnt0 rfl) (awake_any _ hT) ?_
        rintro e w20 ⟨rfl, hb20⟩
        refine ⟨_, rfl, ?_⟩
        have r20 := Rel.of0 hb20
        replace hT := hT.nw r20
        replace HL := HL.nw r20
        replace E := E.then r20 (fun _ _ h => h.elim)
        refine Sx.sv (r_as rfl) rfl (wnt0 rfl) ?_
        refine wnil ?_
        refine Sx.nT ?_
        refine wp_ret ?_
        exact Sx.ret1 Tryd.results6 rfl ⟨rfl, E.toB0⟩

/-! ### THE ROW's STEP: WRITTEN OUT: LEAVE IT -/
set_option maxRecDepth 100000 in
theorem lifted (os : Os) (started : os.Started) (H : Type) (enc : TypeId × Value → H) :
    ReturnsInHanded {} Tryd.checked os 6 .any (fun w args => (Rows.severityWorstSpec.pre enc Tryd.prog Tryd.f6 [] false w args ∧ laidMetH Tryd.prog laidL w) ∧ sizedMet enc Tryd.prog Tryd.f6 (OpenSpec.ofChange Rows.severityWorstSpec) false w args) (Rows.severityWorstSpec.post enc Tryd.prog Tryd.f6 false true false false) := by
  refine returnsInHanded_of_change_and (C := Tryd.checked) (X := fun w _ => laidMetH Tryd.prog laidL w) (fun _ _ _ hh h => h.of_heap hh) own started (by kernel_rfl) Tryd.func6
    (ChangeSpec.witness_shaped (enc := enc) (C := Tryd.checked) (os := os) (X := fun w _ => laidMetH Tryd.prog laidL w) false (World.doorLaid Tryd.prog 400 os) #[.slice none 0 0] 8 rfl (World.shaped_of_RefB (by kernel_rfl) (by kernel_rfl)) (by kernel_rfl) (by kernel_rfl) (by kernel_rfl) (door_met os _)) ?_
  intro W base args ds gs before hval0 hW _ _ hL _
  have hval : ∀ (j : Nat) t v, Tryd.f6.params[j]? = some t → args[j]? = some v → Value.okWide Tryd.prog W .any base t v := hval0
  have hW' := hW
  obtain ⟨p, q, hA0, hV, rfl, hfz, hnd⟩ := hW
  have hA : DataW.TrodAll enc Tryd.prog W 0 (fun _ => true) true Tryd.f6.params.toList args.toList ds p := hA0
  rw [Tryd.params6] at hA hval
  obtain ⟨v0, vs0, d0, ds0, p0, q0, hargs, rfl, rfl, h0, r0⟩ := trodAll_cons hA
  obtain ⟨rfl, rfl, rfl⟩ := trodAll_nil r0
  obtain rfl : args = #[v0] := by cases args; simp_all
  obtain ⟨rfl, rfl⟩ := trodVars_none hV
  obtain ⟨a0, len0, cap0, rfl⟩ := okWide_slice Tryd.underlying22 (hval 0 22 v0 rfl rfl)
  have k0 := h0
  have lt0 : ∀ x ∈ p0, x.block < W.heap.size := by obtain ⟨m, hm⟩ := k0; exact DataW.trod_lt m _ _ _ hm
  obtain ⟨z0, w0⟩ : ∃ zs, IsRow .i64 W a0 len0 cap0 zs := by
    obtain ⟨fuel, hf⟩ := h0
    rcases open_ints Tryd.underlying22 Tryd.underlying3 (by kernel_rfl) hf with ⟨hcs, _⟩ | ⟨x, l, c, zs, hcs, _, hl, hm, hz, _, hcell, hwz⟩
    · simp [Value.cells] at hcs
      obtain ⟨rfl, rfl, rfl⟩ := hcs
      exact ⟨[], .inl ⟨rfl, rfl, rfl, rfl⟩⟩
    · simp [Value.cells] at hcs
      obtain ⟨rfl, rfl, rfl⟩ := hcs
      exact ⟨zs, .inr ⟨_, rfl, hl, hm, by simpa using hz, hcell, hwz⟩⟩
  clear hA0 hval0
  refine (walk a0 len0 cap0 z0 W w0 (tb_of hL)).mono fun e W' ⟨he, bel⟩ => ?_
  subst he
  exact ⟨_, rfl, _, _, _, [], _, [], hW', trodAll_mk1 (shut_bool Tryd.underlying4 _), (trodAll_cons_mk (Below.trod laidOut (by kernel_rfl) (of_decide_eq_true (by kernel_rfl)) k0 bel lt0) trodAll_mk0), rfl, bel.frame _, fun h => by cases h⟩

theorem over : Rows.severityWorstRow.holds Tryd.pinned (OpenSpec.ofChange Rows.severityWorstSpec) :=
  OpenClaim.holds_of_wide 6 Tryd.f6 rfl rfl rfl rfl rfl rfl rfl ⟨rfl, rfl, rfl, rfl, rfl⟩ rfl rfl rfl rfl rfl (by kernel_rfl) Tryd.func6 (by kernel_rfl)
    (of_decide_eq_true (by kernel_rfl)) (by unfold Func.isWrapper; first | (rw [if_pos (by decide +kernel)]; kernel_rfl) | (rw [if_neg (by decide +kernel)]; exact ⟨rfl, rfl⟩))
    (fun os started H enc _ => lifted os started H enc)

/-- ████ THE STATEMENT ████ -/
theorem proved : Rows.SeverityWorstSaid := over
#print axioms proved

/-- ████ THE TIED CARD ████ -/
theorem card : Rows.SeverityWorstCardSaid :=
  Claim7.holds_tied_plain_at .later [] [.data] true (true, "ad4c5ca6948ed5b51ad57fd7c7d256d481063a317f6ff24e3cac6c2ca41a9d77") false
    proved (fun _ h => by cases h) (by kernel_rfl) (fun _ h => by cases h) severityWorst_row_tie rfl ⟨rfl, rfl⟩ (by kernel_rfl) rfl
    (fun f fn hf hfn => by
      obtain rfl : f = 6 := Option.some.inj ((show Tryd.prog.funcNamed "leakresponse/leakresponselaw31.SeverityWorst" = some 6 by kernel_rfl).symm.trans hf) |>.symm
      obtain rfl : fn = Tryd.f6 := (Option.some.inj (Tryd.func6.symm.trans hfn)).symm
      exact ⟨by kernel_rfl, fun j t ht => by
        rw [Tryd.params6] at ht
        have hm : t ∈ [22] := by simpa using Array.mem_of_getElem? ht
        have hall : ([22].all fun u => !Tryd.prog.wantsStandIn u) = true := by kernel_rfl
        exact (show Tryd.prog.wantsStandIn t = false by simpa using List.all_eq_true.1 hall t hm)⟩)
    (by kernel_rfl)
#print axioms card
end Go.Proofs.YtahggnlmabdbbaaDoor.severityWorst
