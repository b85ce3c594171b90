/-
  The Go function leakresponse/leakresponselaw25.RightsAlone returns true for every list of numbers, and leaves what was there as it was; no conditions. Without stores and mints a credential reaches itself alone, with the power of its own grants; what is reached reaches no more.
-/
import Derived.Test.YtahggnlmabdbbaaLwF
import Derived.Test.YtahggnlmabdbbaaRows
namespace Go.Proofs.Ytahggnlmabdbbaa.rightsAlone
open Go.ChangeShapes Go.WideShapes Go.ChangeAt Go.RowKit Go.Shelf Go.Maps
open Go.ChangeMaps (open_string shut_string)
open Go.Proofs.Ytahggnlmabdbbaa.Tp
open Go.Proofs.Ytahggnlmabdbbaa.Di
open Go.Proofs.Ytahggnlmabdbbaa.Sx
set_option linter.unusedVariables false

theorem alone_step {x : Rt} {c : Int} {e : T5} : ¬ IsSt ⟨x.c, x.k, x.g, [], []⟩ c e := by
  rintro (⟨n, h1, _⟩ | ⟨i, n, h1, h2, _⟩)
  · simp at h1
  · simp at h2
theorem alone_rch {x : Rt} {c y : Int} (h : Rch ⟨x.c, x.k, x.g, [], []⟩ c y) : y = c := by
  obtain ⟨l, h⟩ := h
  induction h with
  | nil => rfl
  | snoc _ he _ => exact absurd he alone_step
theorem alone_rB {x : Rt} {c y : Int} : rB ⟨x.c, x.k, x.g, [], []⟩ c y = decide (y = c) := by
  rw [Bool.eq_iff_iff, rB_iff, decide_eq_true_iff]
  exact ⟨alone_rch, fun h => h ▸ .refl _ _⟩
theorem alone_ok {x : Rt} (h : Rok x) : Rok ⟨x.c, x.k, x.g, [], []⟩ :=
  ⟨h.c0, h.c1, h.k0, h.k1, h.lg, by simp, by simp, h.g, fun j hj => absurd hj (by simp), fun j hj => absurd hj (by simp)⟩
theorem alone_rl {x : Rt} (h : Rok x) {c : Int} (hc : 0 ≤ c ∧ c < x.c) : rl ⟨x.c, x.k, x.g, [], []⟩ c = [c] := by
  have hm := fun y => rl_mem (alone_ok h) (c := c) hc y
  have hp : (rl ⟨x.c, x.k, x.g, [], []⟩ c).Pairwise (· < ·) := fl_up _ _
  have hs : ∀ y ∈ rl ⟨x.c, x.k, x.g, [], []⟩ c, y = c := fun y hy => alone_rch ((hm y).1 hy)
  have hi := (hm c).2 (.refl _ _)
  cases hl : rl ⟨x.c, x.k, x.g, [], []⟩ c with
  | nil => rw [hl] at hi; cases hi
  | cons a l =>
    rw [hl] at hp hs
    have ha : a = c := hs a List.mem_cons_self
    cases l with
    | nil => rw [ha]
    | cons b l =>
      have hb : b = c := hs b (by simp)
      have : a < b := (List.pairwise_cons.1 hp).1 b List.mem_cons_self
      omega
set_option maxRecDepth 100000 in
set_option maxHeartbeats 16000000 in
theorem walk (a0 : Option Addr) (len0 cap0 : Nat) (z0 : List Int) (w : World) (w0 : IsRow .i64 w a0 len0 cap0 z0) :
    Calls Try.prog 6 #[.slice a0 len0 cap0] w fun e w' => e = .returned (.bool true) ∧ Below w.heap.size w w' := by
  have hm0 := w0.at_.1
  unfold maxLen at hm0
  have E : Rel (fun x => w.heap.size ≤ x) w w := Rel.refl _ _
  refine Sx.enter Try.func6 rfl Try.ntmps6 rfl (fun fr => ?_)
  refine Sx.seq ?_
  refine Sx.reg ?_
  refine Sx.sv (r_as rfl) rfl (wnt0 rfl) ?_
  refine wnil ?_
  refine Sx.nT ?_
  refine Sx.seq ?_
  refine Sx.seq ?_
  refine Sx.reg ?_
  refine Sx.sv (r_mv rfl) rfl (wnt0 rfl) ?_
  refine Sx.sv (r_ln Try.underlying22 rfl) rfl (wnt0 rfl) ?_
  refine Sx.sv (r_gt rfl rfl) rfl (wnt0 rfl) ?_
  refine wnil ?_
  refine Sx.nT ?_
  by_cases hlen : 300 < len0
  · refine Sx.ct rfl (decide_eq_true (by omega)) ?_
    refine Sx.seq ?_
    refine Sx.reg ?_
    refine Sx.sc (r_call en7 rfl) rfl (wnt0 rfl) (awake_any _) ?_
    rintro e w1 ⟨rfl, hb1⟩
    refine ⟨_, rfl, ?_⟩
    have r1 := Rel.of0 hb1
    replace E := E.then r1 (fun _ _ h => h.elim)
    refine Sx.sv (r_as rfl) rfl (wnt0 rfl) ?_
    refine wnil ?_
    refine Sx.nT ?_
    refine wp_ret ?_
    refine Sx.rT ?_
    exact Sx.ret1 Try.results6 rfl ⟨rfl, E.toB0⟩
  · skip
    refine Sx.cf rfl (decide_eq_false (by omega)) ?_
    refine wp_skip ?_
    refine Sx.nT ?_
    refine Sx.seq ?_
    refine Sx.reg ?_
    refine Sx.sv (r_mv rfl) rfl (wnt0 rfl) ?_
    refine Sx.sv (r_bld rfl (bd26_0 _ _ _)) rfl (wnt0 rfl) ?_
    refine Sx.sy (y_box rfl rfl) rfl (wnt0 rfl) ?_
    rintro _ w2 ⟨b2, rfl, n2, x2⟩
    have g2 : w.heap.size ≤ b2 := Nat.le_trans E.size n2.ge
    replace E := E.then n2.r (fun _ _ h => h.elim)
    refine Sx.sv (r_as rfl) rfl (wnt0 rfl) ?_
    refine wnil ?_
    refine Sx.nT ?_
    refine Sx.seq ?_
    refine Sx.reg ?_
    refine Sx.sv (r_mv rfl) rfl (wnt0 rfl) ?_
    have ht := tape_of w0 n2 x2
    have lT := x2.lt
    have tq3_ht := tape_lt ht
    refine Sx.sc (r_call en8 rfl) rfl (wnt0 rfl) (rights_any b2 _ ht lT) ?_
    rintro e w3 ⟨x, v, rfl, hmk, hrl, hg3, ht3⟩
    refine ⟨_, rfl, ?_⟩
    have r3 := Rel.ofT hg3
    replace E := E.then r3 (fun x hx (e : x = b2) => show w.heap.size ≤ x by omega)
    replace ht := ht3
    have HX := Has.rl hrl
    have hok := hmk.ok
    have hc1 := hmk.c1
    have hc6 := hmk.c6
    have hk1 := hmk.k1
    have hk5 := hmk.k5
    have hg7 := hmk.g7
    have hs4 := hmk.s4
    have hm3 := hmk.m3
    have hsz : szs x := ⟨by omega, by omega, by omega⟩
    refine Sx.sy (y_all zi31 rfl) rfl (wnt0 rfl) ?_
    rintro _ w4 ⟨b4, rfl, n4, x4⟩
    have l4_ht : b2 < b4 := Nat.lt_of_lt_of_le (tape_lt ht) n4.ge
    have l4_HX : w3.heap.size ≤ b4 := Nat.le_trans HX.le n4.ge
    have g4 : w.heap.size ≤ b4 := Nat.le_trans E.size n4.ge
    replace ht := tape_rel ht n4.r (fun _ _ h => h)
    replace HX := HX.nw n4.r
    replace E := E.then n4.r (fun _ _ h => h.elim)
    refine Sx.syu (u_stR ty31 rfl rfl rfl x4 rfl rfl) rfl (wnt0 rfl) ?_
    rintro w5 ⟨r5, z5, x5n⟩
    replace ht := tape_rel ht r5 (fun b hb (e : b = b4) => by omega)
    replace HX := HX.ch r5 (by omega)
    replace E := E.then r5 (fun x hx (e : x = b4) => show w.heap.size ≤ x by omega)
    replace x4 := x5n; clear x5n
    refine wnil ?_
    refine Sx.nT ?_
    refine Sx.seq ?_
    refine Sx.seq ?_
    refine Sx.reg ?_
    refine Sx.sv (r_as rfl) rfl (wnt0 rfl) ?_
    refine wnil ?_
    refine Sx.nT ?_
    refine Sx.blk ?_
    obtain ⟨n, hn⟩ : ∃ n : Nat, x.c = (n : Int) := ⟨x.c.toNat, by omega⟩
    have t6_HX := HX.le
    have t6_x4 := x4.lt
    refine Sx.lp (Nat) (fun c => [(5, .int .i64 (c : Int)), (3, .pointer (some ⟨b2, 0, none⟩)), (4, .pointer (some ⟨b4, 0, none⟩))]) (fun c wr => Rel (fun x => w5.heap.size ≤ x) w5 wr ∧ c ≤ n) (fun c => n - c) 0 ⟨rfl, rfl, rfl, trivial⟩ ⟨Rel.refl _ _, Nat.zero_le _⟩ ?_
    rintro c fr w6 ⟨E6, hcn⟩
    show Code.wp _ _ _ (Fa fr [(5, .int .i64 (c : Int)), (3, .pointer (some ⟨b2, 0, none⟩)), (4, .pointer (some ⟨b4, 0, none⟩))]) _
    replace ht := tape_rel ht E6 (fun x hx => show ¬ (w5.heap.size ≤ x) by omega)
    replace HX := HX.rel E6 (fun x h1 h2 => show ¬ (w5.heap.size ≤ x) by omega)
    replace x4 := x4.rel E6 (show ¬ (w5.heap.size ≤ b4) by omega)
    have s6_E := E.size
    replace E := E.then E6 (fun x hx (e : w5.heap.size ≤ x) => show w.heap.size ≤ x by omega)
    refine Sx.seq ?_
    refine Sx.seq ?_
    refine Sx.reg ?_
    refine Sx.sv (r_mv rfl) rfl (wnt0 rfl) ?_
    refine Sx.sv (r_fa fo31_0 rfl) rfl (wnt0 rfl) ?_
    refine Sx.sv (r_ld ty3 rfl (x4.seg) rfl) rfl (wnt0 rfl) ?_
    refine Sx.sv (r_lt rfl rfl) rfl (wnt0 rfl) ?_
    refine wnil ?_
    refine Sx.nT ?_
    by_cases hlt : c < n
    · refine Sx.ct rfl (decide_eq_true (by omega)) ?_
      refine wp_skip ?_
      refine Sx.nT ?_
      refine Sx.seq ?_
      refine Sx.blk ?_
      refine Sx.seq ?_
      refine Sx.reg ?_
      refine Sx.sv (r_ldr ty31 rfl (x4.seg) rfl) rfl (wnt0 rfl) ?_
      refine Sx.sv (r_mv rfl) rfl (wnt0 rfl) ?_
      have hc : 0 ≤ (c : Int) ∧ (c : Int) < x.c := ⟨by omega, by omega⟩
      have tq7_ht := tape_lt ht
      refine Sx.sc (r_call en10 rfl) rfl (wnt0 rfl) (reach_yes x v c _ (HX.ok.base (Nat.zero_le _)) hsz ⟨hok, hc⟩) ?_
      rintro e w7 ⟨Ar, cr, rfl, hro, hb7⟩
      refine ⟨_, rfl, ?_⟩
      have r7 := Rel.of0 hb7
      replace ht := tape_rel ht r7 (fun _ _ h => h)
      replace HX := HX.nw r7
      replace x4 := x4.nw r7
      replace E := E.then r7 (fun _ _ h => h.elim)
      replace E6 := E6.then r7 (fun _ _ h => h.elim)
      have HR := Has.row (row_of_own hro)
      have hrl := rl_len hok c
      refine Sx.sv (r_as rfl) rfl (wnt0 rfl) ?_
      refine wnil ?_
      refine Sx.nT ?_
      refine Sx.seq ?_
      refine Sx.reg ?_
      refine Sx.sv (r_mv rfl) rfl (wnt0 rfl) ?_
      refine Sx.sv (r_ln Try.underlying22 rfl) rfl (wnt0 rfl) ?_
      refine Sx.sv (r_mv rfl) rfl (wnt0 rfl) ?_
      refine wnil ?_
      refine Sx.nT ?_
      refine Sx.blk ?_
      have t8_HX := HX.le
      have t8_x4 := x4.lt
      have t8_HR := HR.le
      refine Sx.lp (Nat) (fun i => [(5, .int .i64 (c : Int)), (3, .pointer (some ⟨b2, 0, none⟩)), (4, .pointer (some ⟨b4, 0, none⟩)), (38, .int .i64 (i : Int)), (36, .slice Ar (rl x c).length cr), (37, .int .i64 ((rl x c).length : Int)), (6, .slice Ar (rl x c).length cr)]) (fun i wr => Rel (fun x => w7.heap.size ≤ x) w7 wr ∧ i ≤ (rl x c).length) (fun i => (rl x c).length - i) 0 ⟨rfl, rfl, rfl, rfl, rfl, rfl, rfl, trivial⟩ ⟨Rel.refl _ _, Nat.zero_le _⟩ ?_
      rintro i fr w8 ⟨E8, hi⟩
      show Code.wp _ _ _ (Fa fr [(5, .int .i64 (c : Int)), (3, .pointer (some ⟨b2, 0, none⟩)), (4, .pointer (some ⟨b4, 0, none⟩)), (38, .int .i64 (i : Int)), (36, .slice Ar (rl x c).length cr), (37, .int .i64 ((rl x c).length : Int)), (6, .slice Ar (rl x c).length cr)]) _
      replace ht := tape_rel ht E8 (fun x hx => show ¬ (w7.heap.size ≤ x) by omega)
      replace HX := HX.rel E8 (fun x h1 h2 => show ¬ (w7.heap.size ≤ x) by omega)
      replace x4 := x4.rel E8 (show ¬ (w7.heap.size ≤ b4) by omega)
      replace HR := HR.rel E8 (fun x h1 h2 => show ¬ (w7.heap.size ≤ x) by omega)
      have s8_E := E.size
      replace E := E.then E8 (fun x hx (e : w7.heap.size ≤ x) => show w.heap.size ≤ x by omega)
      have s8_E6 := E6.size
      replace E6 := E6.then E8 (fun x hx (e : w7.heap.size ≤ x) => show w5.heap.size ≤ x by omega)
      refine Sx.seq ?_
      refine Sx.reg ?_
      refine Sx.sv (r_lt rfl rfl) rfl (wnt0 rfl) ?_
      refine wnil ?_
      refine Sx.nT ?_
      refine Sx.seq ?_
      by_cases hlt2 : i < (rl x c).length
      · refine Sx.ct rfl (decide_eq_true (by omega)) ?_
        obtain ⟨ba, oa, hA1, -, hba, hca⟩ := HR.ok.z hlt2
        have m1 : Me _ ba (oa + i) [_] := .one hba hca
        have hq := (rl_mem hok hc _).1 (e0_mem hlt2)
        have hqr := hq.rng hok hc
        have hrl3 := rl_len hok (e0 (rl x c) i)
        refine wp_skip ?_
        refine Sx.nT ?_
        refine Sx.seq ?_
        refine Sx.blk ?_
        refine Sx.seq ?_
        refine Sx.reg ?_
        refine Sx.sv (r_ix1i ix22 rfl (by first | rfl | assumption) rfl (by first | rfl | assumption) (by omega)) rfl (wnt0 rfl) ?_
        refine Sx.sv (r_ld0 ty3 rfl (m1.seg) rfl) rfl (wnt0 rfl) ?_
        refine Sx.sv (r_as rfl) rfl (wnt0 rfl) ?_
        refine wnil ?_
        refine Sx.nT ?_
        refine Sx.seq ?_
        refine Sx.reg ?_
        refine Sx.sv (r_ldr ty31 rfl (x4.seg) rfl) rfl (wnt0 rfl) ?_
        refine Sx.sv (r_mv rfl) rfl (wnt0 rfl) ?_
        have tq9_ht := tape_lt ht
        refine Sx.sc (r_call en10 rfl) rfl (wnt0 rfl) (reach_yes x v (e0 (rl x c) i) _ (HX.ok.base (Nat.zero_le _)) hsz ⟨hok, hqr⟩) ?_
        rintro e w9 ⟨Aq, cq, rfl, hqo, hb9⟩
        refine ⟨_, rfl, ?_⟩
        have r9 := Rel.of0 hb9
        replace ht := tape_rel ht r9 (fun _ _ h => h)
        replace HX := HX.nw r9
        replace x4 := x4.nw r9
        replace HR := HR.nw r9
        replace E := E.then r9 (fun _ _ h => h.elim)
        replace E6 := E6.then r9 (fun _ _ h => h.elim)
        replace E8 := E8.then r9 (fun _ _ h => h.elim)
        have HQ := Has.row (row_of_own hqo)
        refine Sx.sv (r_ln Try.underlying22 rfl) rfl (wnt0 rfl) ?_
        refine Sx.sv (r_mv rfl) rfl (wnt0 rfl) ?_
        refine wnil ?_
        refine Sx.nT ?_
        refine Sx.blk ?_
        have t10_HX := HX.le
        have t10_x4 := x4.lt
        have t10_HR := HR.le
        have t10_HQ := HQ.le
        refine Sx.lp (Nat) (fun j => [(5, .int .i64 (c : Int)), (3, .pointer (some ⟨b2, 0, none⟩)), (4, .pointer (some ⟨b4, 0, none⟩)), (38, .int .i64 (i : Int)), (36, .slice Ar (rl x c).length cr), (37, .int .i64 ((rl x c).length : Int)), (6, .slice Ar (rl x c).length cr), (46, .int .i64 (j : Int)), (44, .slice Aq (rl x (e0 (rl x c) i)).length cq), (45, .int .i64 ((rl x (e0 (rl x c) i)).length : Int))]) (fun j wr => Rel (fun x => w9.heap.size ≤ x) w9 wr ∧ j ≤ (rl x (e0 (rl x c) i)).length) (fun j => (rl x (e0 (rl x c) i)).length - j) 0 ⟨rfl, rfl, rfl, rfl, rfl, rfl, rfl, rfl, rfl, rfl, trivial⟩ ⟨Rel.refl _ _, Nat.zero_le _⟩ ?_
        rintro j fr w10 ⟨E10, hj⟩
        show Code.wp _ _ _ (Fa fr [(5, .int .i64 (c : Int)), (3, .pointer (some ⟨b2, 0, none⟩)), (4, .pointer (some ⟨b4, 0, none⟩)), (38, .int .i64 (i : Int)), (36, .slice Ar (rl x c).length cr), (37, .int .i64 ((rl x c).length : Int)), (6, .slice Ar (rl x c).length cr), (46, .int .i64 (j : Int)), (44, .slice Aq (rl x (e0 (rl x c) i)).length cq), (45, .int .i64 ((rl x (e0 (rl x c) i)).length : Int))]) _
        replace ht := tape_rel ht E10 (fun x hx => show ¬ (w9.heap.size ≤ x) by omega)
        replace HX := HX.rel E10 (fun x h1 h2 => show ¬ (w9.heap.size ≤ x) by omega)
        replace x4 := x4.rel E10 (show ¬ (w9.heap.size ≤ b4) by omega)
        replace HR := HR.rel E10 (fun x h1 h2 => show ¬ (w9.heap.size ≤ x) by omega)
        replace HQ := HQ.rel E10 (fun x h1 h2 => show ¬ (w9.heap.size ≤ x) by omega)
        have s10_E := E.size
        replace E := E.then E10 (fun x hx (e : w9.heap.size ≤ x) => show w.heap.size ≤ x by omega)
        have s10_E6 := E6.size
        replace E6 := E6.then E10 (fun x hx (e : w9.heap.size ≤ x) => show w5.heap.size ≤ x by omega)
        have s10_E8 := E8.size
        replace E8 := E8.then E10 (fun x hx (e : w9.heap.size ≤ x) => show w7.heap.size ≤ x by omega)
        refine Sx.seq ?_
        refine Sx.reg ?_
        refine Sx.sv (r_lt rfl rfl) rfl (wnt0 rfl) ?_
        refine wnil ?_
        refine Sx.nT ?_
        refine Sx.seq ?_
        by_cases hlt3 : j < (rl x (e0 (rl x c) i)).length
        · refine Sx.ct rfl (decide_eq_true (by omega)) ?_
          obtain ⟨ba, oa, hA1, -, hba, hca⟩ := HQ.ok.z hlt3
          have m1 : Me _ ba (oa + j) [_] := .one hba hca
          refine wp_skip ?_
          refine Sx.nT ?_
          refine Sx.seq ?_
          refine Sx.blk ?_
          refine Sx.seq ?_
          refine Sx.reg ?_
          refine Sx.sv (r_ix1i ix22 rfl (by first | rfl | assumption) rfl (by first | rfl | assumption) (by omega)) rfl (wnt0 rfl) ?_
          refine Sx.sv (r_ld0 ty3 rfl (m1.seg) rfl) rfl (wnt0 rfl) ?_
          refine Sx.sv (r_as rfl) rfl (wnt0 rfl) ?_
          refine wnil ?_
          refine Sx.nT ?_
          refine Sx.seq ?_
          refine Sx.reg ?_
          refine Sx.sv (r_mv rfl) rfl (wnt0 rfl) ?_
          refine Sx.sv (r_mv rfl) rfl (wnt0 rfl) ?_
          have tq11_ht := tape_lt ht
          refine Sx.sc (r_call en12 rfl) rfl (wnt0 rfl) (has_any (rl x c) (e0 (rl x (e0 (rl x c) i)) j) Ar cr _ (HR.ok.base (Nat.zero_le _)) (by omega)) ?_
          rintro e w11 ⟨rfl, rfl⟩
          refine ⟨_, rfl, ?_⟩
          refine Sx.sv (r_not rfl) rfl (wnt0 rfl) ?_
          refine wnil ?_
          refine Sx.nT ?_
          refine Sx.cf rfl (congrArg (fun z => !z) (inB_iff.2 ((rl_mem hok hc _).2 (hq.trans ((rl_mem hok hqr _).1 (e0_mem hlt3)))))) ?_
          refine wp_skip ?_
          refine Sx.nB ?_
          refine Sx.nT ?_
          refine Sx.reg ?_
          refine Sx.sv (r_add rfl rfl (by omega) (by omega)) rfl (wnt0 rfl) ?_
          refine Sx.sv (r_mv rfl) rfl (wnt0 rfl) ?_
          refine wnil ?_
          refine Sx.nT ?_
          exact Sx.lpe (j + 1) ⟨rfl, rfl, rfl, rfl, rfl, rfl, rfl, rfl, rfl, rfl, trivial⟩ ⟨E10, hlt3⟩ (show _ - (j + 1) < _ - j by omega)
        · refine Sx.cf rfl (decide_eq_false (by omega)) ?_
          refine wp_exit ?_
          refine Sx.eT ?_
          refine Sx.eT ?_
          refine Sx.eB ?_
          refine Sx.nB ?_
          refine Sx.nT ?_
          refine Sx.reg ?_
          refine Sx.sv (r_add rfl rfl (by omega) (by omega)) rfl (wnt0 rfl) ?_
          refine Sx.sv (r_mv rfl) rfl (wnt0 rfl) ?_
          refine wnil ?_
          refine Sx.nT ?_
          exact Sx.lpe (i + 1) ⟨rfl, rfl, rfl, rfl, rfl, rfl, rfl, trivial⟩ ⟨E8, hlt2⟩ (show _ - (i + 1) < _ - i by omega)
      · refine Sx.cf rfl (decide_eq_false (by omega)) ?_
        refine wp_exit ?_
        refine Sx.eT ?_
        refine Sx.eT ?_
        refine Sx.eB ?_
        refine Sx.nB ?_
        refine Sx.nT ?_
        refine Sx.reg ?_
        refine Sx.sv (r_mv rfl) rfl (wnt0 rfl) ?_
        refine Sx.sv (r_add rfl rfl (by omega) (by omega)) rfl (wnt0 rfl) ?_
        refine Sx.sv (r_as rfl) rfl (wnt0 rfl) ?_
        refine wnil ?_
        refine Sx.nT ?_
        exact Sx.lpe (c + 1) ⟨rfl, rfl, rfl, trivial⟩ ⟨E6, hlt⟩ (show n - (c + 1) < n - c by omega)
    · refine Sx.cf rfl (decide_eq_false (by omega)) ?_
      refine wp_exit ?_
      refine Sx.eT ?_
      refine Sx.eT ?_
      refine Sx.eB ?_
      refine Sx.nT ?_
      refine Sx.seq ?_
      refine Sx.reg ?_
      refine Sx.sv (r_fa fo31_3 rfl) rfl (wnt0 rfl) ?_
      refine Sx.syu (u_st sz28 rfl rfl rfl rfl x4 rfl) rfl (wnt0 rfl) ?_
      rintro w12 ⟨r12, z12, x12n⟩
      replace ht := tape_rel ht r12 (fun b hb (e : b = b4) => by omega)
      replace HX := HX.ch r12 (by omega)
      replace E := E.then r12 (fun x hx (e : x = b4) => show w.heap.size ≤ x by omega)
      replace x4 := x12n; clear x12n
      refine Sx.sv (r_fa fo31_4 rfl) rfl (wnt0 rfl) ?_
      refine Sx.syu (u_st sz29 rfl rfl rfl rfl x4 rfl) rfl (wnt0 rfl) ?_
      rintro w13 ⟨r13, z13, x13n⟩
      replace ht := tape_rel ht r13 (fun b hb (e : b = b4) => by omega)
      replace HX := HX.ch r13 (by omega)
      replace E := E.then r13 (fun x hx (e : x = b4) => show w.heap.size ≤ x by omega)
      replace x4 := x13n; clear x13n
      refine wnil ?_
      refine Sx.nT ?_
      refine Sx.seq ?_
      refine Sx.reg ?_
      refine Sx.sv (r_mv rfl) rfl (wnt0 rfl) ?_
      refine Sx.sv (r_fa fo31_0 rfl) rfl (wnt0 rfl) ?_
      refine Sx.sv (r_ld ty3 rfl (x4.seg) rfl) rfl (wnt0 rfl) ?_
      have tq14_ht := tape_lt ht
      refine Sx.sc (r_call en9 rfl) rfl (wnt0 rfl) (next_any b2 x.c _ ht (by omega) (by omega)) ?_
      rintro e w14 ⟨z14, p14, q14, rfl, hg14, ht14⟩
      refine ⟨_, rfl, ?_⟩
      have r14 := Rel.ofT hg14
      replace HX := HX.ch r14 (by omega)
      replace x4 := x4.ch r14 (by omega)
      replace E := E.then r14 (fun x hx (e : x = b2) => show w.heap.size ≤ x by omega)
      replace ht := ht14
      have hc : 0 ≤ z14 ∧ z14 < x.c := ⟨by omega, by omega⟩
      generalize z14 = c at *
      have hok2 := alone_ok hok
      have hpl : (pwr (⟨x.c, x.k, x.g, [], []⟩ : Rt) c).length = x.k.toNat := pw_len _ _
      refine Sx.sv (r_as rfl) rfl (wnt0 rfl) ?_
      refine wnil ?_
      refine Sx.nT ?_
      refine Sx.seq ?_
      refine Sx.reg ?_
      refine Sx.sv (r_ldr ty31 rfl (x4.seg) rfl) rfl (wnt0 rfl) ?_
      refine Sx.sv (r_mv rfl) rfl (wnt0 rfl) ?_
      have tq15_ht := tape_lt ht
      refine Sx.sc (r_call en11 rfl) rfl (wnt0 rfl) (power_yes (⟨x.c, x.k, x.g, [], []⟩ : Rt) ⟨v.A1, v.c1, none, 0, none, 0⟩ c _ (show RL _ 0 (⟨x.c, x.k, x.g, [], []⟩ : Rt) ⟨v.A1, v.c1, none, 0, none, 0⟩ from ⟨HX.ok.r1.base (Nat.zero_le _), ⟨rfl, fun h => absurd h (Nat.lt_irrefl 0)⟩, ⟨rfl, fun h => absurd h (Nat.lt_irrefl 0)⟩⟩) ⟨by show x.g.length ≤ _; omega, Nat.zero_le _, Nat.zero_le _⟩ ⟨hok2, hc⟩) ?_
      rintro e w15 ⟨Ap, cp, rfl, hpo, hb15⟩
      refine ⟨_, rfl, ?_⟩
      have r15 := Rel.of0 hb15
      replace ht := tape_rel ht r15 (fun _ _ h => h)
      replace HX := HX.nw r15
      replace x4 := x4.nw r15
      replace E := E.then r15 (fun _ _ h => h.elim)
      have HP := Has.row (row_of_own hpo)
      refine Sx.sv (r_as rfl) rfl (wnt0 rfl) ?_
      refine wnil ?_
      refine Sx.nT ?_
      refine Sx.seq ?_
      refine Sx.seq ?_
      refine Sx.reg ?_
      refine Sx.sv (r_ldr ty31 rfl (x4.seg) rfl) rfl (wnt0 rfl) ?_
      refine Sx.sv (r_mv rfl) rfl (wnt0 rfl) ?_
      have hre := reach_yes (⟨x.c, x.k, x.g, [], []⟩ : Rt) ⟨v.A1, v.c1, none, 0, none, 0⟩ c _ (show RL _ 0 (⟨x.c, x.k, x.g, [], []⟩ : Rt) ⟨v.A1, v.c1, none, 0, none, 0⟩ from ⟨HX.ok.r1.base (Nat.zero_le _), ⟨rfl, fun h => absurd h (Nat.lt_irrefl 0)⟩, ⟨rfl, fun h => absurd h (Nat.lt_irrefl 0)⟩⟩) ⟨by show x.g.length ≤ _; omega, Nat.zero_le _, Nat.zero_le _⟩ ⟨hok2, hc⟩
      rw [alone_rl hok hc] at hre
      have tq16_ht := tape_lt ht
      refine Sx.sc (r_call en10 rfl) rfl (wnt0 rfl) (hre) ?_
      rintro e w16 ⟨Ar, cr, rfl, hro, hb16⟩
      refine ⟨_, rfl, ?_⟩
      have r16 := Rel.of0 hb16
      replace ht := tape_rel ht r16 (fun _ _ h => h)
      replace HX := HX.nw r16
      replace x4 := x4.nw r16
      replace HP := HP.nw r16
      replace E := E.then r16 (fun _ _ h => h.elim)
      have HR := Has.row (row_of_own hro)
      refine Sx.sv (r_mv rfl) rfl (wnt0 rfl) ?_
      refine Sx.sy (y_bs rfl (bs22_1 _)) rfl (wnt0 rfl) ?_
      rintro _ w17 ⟨b17, rfl, n17, x17⟩
      have l17_ht : b2 < b17 := Nat.lt_of_lt_of_le (tape_lt ht) n17.ge
      have l17_HX : w3.heap.size ≤ b17 := Nat.le_trans HX.le n17.ge
      have l17_x4 : b4 < b17 := Nat.lt_of_lt_of_le x4.lt n17.ge
      have l17_HP : w15.heap.size ≤ b17 := Nat.le_trans HP.le n17.ge
      have l17_HR : w16.heap.size ≤ b17 := Nat.le_trans HR.le n17.ge
      have g17 : w.heap.size ≤ b17 := Nat.le_trans E.size n17.ge
      replace ht := tape_rel ht n17.r (fun _ _ h => h)
      replace HX := HX.nw n17.r
      replace x4 := x4.nw n17.r
      replace HP := HP.nw n17.r
      replace HR := HR.nw n17.r
      replace E := E.then n17.r (fun _ _ h => h.elim)
      have tq18_ht := tape_lt ht
      refine Sx.sc (r_call en14 rfl) rfl (wnt0 rfl) (ints_any [c] [c] Ar (some ⟨b17, 0, none⟩) cr 1 _ (HR.ok.base (Nat.zero_le _)) (row_bx x17 rfl) (by simp)) ?_
      rintro e w18 ⟨rfl, r18⟩
      refine ⟨_, rfl, ?_⟩
      have r18 := r18
      replace ht := tape_rel ht r18 (fun _ _ h => h)
      replace HX := HX.nw r18
      replace x4 := x4.nw r18
      replace HP := HP.nw r18
      replace HR := HR.nw r18
      replace x17 := x17.nw r18
      replace E := E.then r18 (fun _ _ h => h.elim)
      refine Sx.sv (r_not rfl) rfl (wnt0 rfl) ?_
      refine Sx.sv (r_mv rfl) rfl (wnt0 rfl) ?_
      refine Sx.sv (r_mv rfl) rfl (wnt1 (dj := 72) (b0 := false) rfl rfl rfl rfl (congrArg (fun z => !z) (decide_eq_true rfl)) rfl) ?_
      refine Sx.sv (r_ln Try.underlying22 rfl) rfl (wnt1 (dj := 72) (b0 := false) rfl rfl rfl rfl (congrArg (fun z => !z) (decide_eq_true rfl)) rfl) ?_
      refine Sx.sv (r_fa fo31_1 rfl) rfl (wnt1 (dj := 72) (b0 := false) rfl rfl rfl rfl (congrArg (fun z => !z) (decide_eq_true rfl)) rfl) ?_
      refine Sx.sv (r_ld ty3 rfl (x4.seg) rfl) rfl (wnt1 (dj := 72) (b0 := false) rfl rfl rfl rfl (congrArg (fun z => !z) (decide_eq_true rfl)) rfl) ?_
      refine Sx.sv (r_ne rfl rfl) rfl (wnt1 (dj := 72) (b0 := false) rfl rfl rfl rfl (congrArg (fun z => !z) (decide_eq_true rfl)) rfl) ?_
      refine Sx.sv (r_pkF rfl (congrArg (fun z => !z) (decide_eq_true rfl)) rfl) rfl (wnt0 rfl) ?_
      refine wnil ?_
      refine Sx.nT ?_
      refine Sx.cf rfl (decide_eq_false (by omega)) ?_
      refine wp_skip ?_
      refine Sx.nT ?_
      refine Sx.seq ?_
      refine Sx.seq ?_
      refine Sx.reg ?_
      refine Sx.sv (r_mv rfl) rfl (wnt0 rfl) ?_
      refine Sx.sv (r_ln Try.underlying22 rfl) rfl (wnt0 rfl) ?_
      refine Sx.sv (r_mv rfl) rfl (wnt0 rfl) ?_
      refine wnil ?_
      refine Sx.nT ?_
      refine Sx.blk ?_
      have t19_HX := HX.le
      have t19_x4 := x4.lt
      have t19_HP := HP.le
      refine Sx.lp (Nat) (fun i => [(81, .int .i64 (i : Int)), (79, .slice Ap (pwr (⟨x.c, x.k, x.g, [], []⟩ : Rt) c).length cp), (80, .int .i64 ((pwr (⟨x.c, x.k, x.g, [], []⟩ : Rt) c).length : Int)), (4, .pointer (some ⟨b4, 0, none⟩)), (11, .int .i64 c)]) (fun i wr => Rel (fun x => w18.heap.size ≤ x) w18 wr ∧ i ≤ (pwr (⟨x.c, x.k, x.g, [], []⟩ : Rt) c).length) (fun i => (pwr (⟨x.c, x.k, x.g, [], []⟩ : Rt) c).length - i) 0 ⟨rfl, rfl, rfl, rfl, rfl, trivial⟩ ⟨Rel.refl _ _, Nat.zero_le _⟩ ?_
      rintro i fr w19 ⟨E19, hi⟩
      show Code.wp _ _ _ (Fa fr [(81, .int .i64 (i : Int)), (79, .slice Ap (pwr (⟨x.c, x.k, x.g, [], []⟩ : Rt) c).length cp), (80, .int .i64 ((pwr (⟨x.c, x.k, x.g, [], []⟩ : Rt) c).length : Int)), (4, .pointer (some ⟨b4, 0, none⟩)), (11, .int .i64 c)]) _
      replace ht := tape_rel ht E19 (fun x hx => show ¬ (w18.heap.size ≤ x) by omega)
      replace HX := HX.rel E19 (fun x h1 h2 => show ¬ (w18.heap.size ≤ x) by omega)
      replace x4 := x4.rel E19 (show ¬ (w18.heap.size ≤ b4) by omega)
      replace HP := HP.rel E19 (fun x h1 h2 => show ¬ (w18.heap.size ≤ x) by omega)
      have s19_E := E.size
      replace E := E.then E19 (fun x hx (e : w18.heap.size ≤ x) => show w.heap.size ≤ x by omega)
      refine Sx.seq ?_
      refine Sx.reg ?_
      refine Sx.sv (r_lt rfl rfl) rfl (wnt0 rfl) ?_
      refine wnil ?_
      refine Sx.nT ?_
      refine Sx.seq ?_
      by_cases hlt4 : i < (pwr (⟨x.c, x.k, x.g, [], []⟩ : Rt) c).length
      · refine Sx.ct rfl (decide_eq_true (by omega)) ?_
        obtain ⟨ba, oa, hA1, -, hba, hca⟩ := HP.ok.z hlt4
        have m1 : Me _ ba (oa + i) [_] := .one hba hca
        have hpi : e0 (pwr (⟨x.c, x.k, x.g, [], []⟩ : Rt) c) i = gt (⟨x.c, x.k, x.g, [], []⟩ : Rt) (rB (⟨x.c, x.k, x.g, [], []⟩ : Rt) c) (i : Int) x.g.length := pw_at _ _ (by show i < x.k.toNat; omega)
        rw [hpi] at m1
        refine wp_skip ?_
        refine Sx.nT ?_
        refine Sx.seq ?_
        refine Sx.blk ?_
        refine Sx.seq ?_
        refine Sx.reg ?_
        refine Sx.sv (r_mv rfl) rfl (wnt0 rfl) ?_
        refine Sx.sv (r_ix1i ix22 rfl (by first | rfl | assumption) rfl (by first | rfl | assumption) (by omega)) rfl (wnt0 rfl) ?_
        refine Sx.sv (r_ld0 ty3 rfl (m1.seg) rfl) rfl (wnt0 rfl) ?_
        refine Sx.sv (r_as rfl) rfl (wnt0 rfl) ?_
        refine Sx.sv (r_as rfl) rfl (wnt0 rfl) ?_
        refine wnil ?_
        refine Sx.nT ?_
        refine Sx.seq ?_
        refine Sx.reg ?_
        refine Sx.sv (r_as rfl) rfl (wnt0 rfl) ?_
        refine wnil ?_
        refine Sx.nT ?_
        refine Sx.seq ?_
        refine Sx.seq ?_
        refine Sx.reg ?_
        refine Sx.sv (r_fa fo31_2 rfl) rfl (wnt0 rfl) ?_
        refine Sx.sv (r_ld ty27 rfl (x4.seg) rfl) rfl (wnt0 rfl) ?_
        refine Sx.sv (r_ln Try.underlying27 rfl) rfl (wnt0 rfl) ?_
        refine Sx.sv (r_mv rfl) rfl (wnt0 rfl) ?_
        refine wnil ?_
        refine Sx.nT ?_
        refine Sx.blk ?_
        have t20_HX := HX.le
        have t20_x4 := x4.lt
        have t20_HP := HP.le
        refine Sx.lp (Nat) (fun j => [(89, .int .i64 (j : Int)), (87, .slice v.A1 x.g.length v.c1), (88, .int .i64 (x.g.length : Int)), (15, .int .i64 (gt (⟨x.c, x.k, x.g, [], []⟩ : Rt) (rB (⟨x.c, x.k, x.g, [], []⟩ : Rt) c) (i : Int) j)), (13, .int .i64 (i : Int)), (14, .int .i64 (gt (⟨x.c, x.k, x.g, [], []⟩ : Rt) (rB (⟨x.c, x.k, x.g, [], []⟩ : Rt) c) (i : Int) x.g.length)), (81, .int .i64 (i : Int)), (79, .slice Ap (pwr (⟨x.c, x.k, x.g, [], []⟩ : Rt) c).length cp), (80, .int .i64 ((pwr (⟨x.c, x.k, x.g, [], []⟩ : Rt) c).length : Int)), (4, .pointer (some ⟨b4, 0, none⟩)), (11, .int .i64 c)]) (fun j wr => Rel (fun x => w19.heap.size ≤ x) w19 wr ∧ j ≤ x.g.length) (fun j => x.g.length - j) 0 ⟨rfl, rfl, rfl, rfl, rfl, rfl, rfl, rfl, rfl, rfl, rfl, trivial⟩ ⟨Rel.refl _ _, Nat.zero_le _⟩ ?_
        rintro j fr w20 ⟨E20, hj⟩
        show Code.wp _ _ _ (Fa fr [(89, .int .i64 (j : Int)), (87, .slice v.A1 x.g.length v.c1), (88, .int .i64 (x.g.length : Int)), (15, .int .i64 (gt (⟨x.c, x.k, x.g, [], []⟩ : Rt) (rB (⟨x.c, x.k, x.g, [], []⟩ : Rt) c) (i : Int) j)), (13, .int .i64 (i : Int)), (14, .int .i64 (gt (⟨x.c, x.k, x.g, [], []⟩ : Rt) (rB (⟨x.c, x.k, x.g, [], []⟩ : Rt) c) (i : Int) x.g.length)), (81, .int .i64 (i : Int)), (79, .slice Ap (pwr (⟨x.c, x.k, x.g, [], []⟩ : Rt) c).length cp), (80, .int .i64 ((pwr (⟨x.c, x.k, x.g, [], []⟩ : Rt) c).length : Int)), (4, .pointer (some ⟨b4, 0, none⟩)), (11, .int .i64 c)]) _
        replace ht := tape_rel ht E20 (fun x hx => show ¬ (w19.heap.size ≤ x) by omega)
        replace HX := HX.rel E20 (fun x h1 h2 => show ¬ (w19.heap.size ≤ x) by omega)
        replace x4 := x4.rel E20 (show ¬ (w19.heap.size ≤ b4) by omega)
        replace HP := HP.rel E20 (fun x h1 h2 => show ¬ (w19.heap.size ≤ x) by omega)
        have s20_E := E.size
        replace E := E.then E20 (fun x hx (e : w19.heap.size ≤ x) => show w.heap.size ≤ x by omega)
        have s20_E19 := E19.size
        replace E19 := E19.then E20 (fun x hx (e : w19.heap.size ≤ x) => show w18.heap.size ≤ x by omega)
        refine Sx.seq ?_
        refine Sx.reg ?_
        refine Sx.sv (r_lt rfl rfl) rfl (wnt0 rfl) ?_
        refine wnil ?_
        refine Sx.nT ?_
        refine Sx.seq ?_
        by_cases hlt5 : j < x.g.length
        · refine Sx.ct rfl (decide_eq_true (by omega)) ?_
          obtain ⟨bg, og, hA2, -, hbg, hg3⟩ := HX.ok.r1.t3 hlt5
          have m2 : Me _ bg (og + j * 3) _ := ⟨hbg, hg3.seg⟩
          have hgt : gt (⟨x.c, x.k, x.g, [], []⟩ : Rt) (rB (⟨x.c, x.k, x.g, [], []⟩ : Rt) c) (i : Int) (j + 1) = if (e3 x.g j).a = c ∧ (e3 x.g j).b = (i : Int) then max (gt (⟨x.c, x.k, x.g, [], []⟩ : Rt) (rB (⟨x.c, x.k, x.g, [], []⟩ : Rt) c) (i : Int) j) (e3 x.g j).c else gt (⟨x.c, x.k, x.g, [], []⟩ : Rt) (rB (⟨x.c, x.k, x.g, [], []⟩ : Rt) c) (i : Int) j := by rw [gt, alone_rB]; simp
          by_cases ha : (e3 x.g j).a = c
          · by_cases hb : (e3 x.g j).b = (i : Int)
            · refine wp_skip ?_
              refine Sx.nT ?_
              refine Sx.seq ?_
              refine Sx.blk ?_
              refine Sx.seq ?_
              refine Sx.reg ?_
              refine Sx.sv (r_ixi ix27 rfl (by first | rfl | assumption) rfl (by first | rfl | assumption) (by omega)) rfl (wnt0 rfl) ?_
              refine Sx.sv (r_ldr ty43 rfl (m2.seg) rfl) rfl (wnt0 rfl) ?_
              refine Sx.sy (y_all zi43 rfl) rfl (wnt0 rfl) ?_
              rintro _ w21 ⟨b21, rfl, n21, x21⟩
              have l21_ht : b2 < b21 := Nat.lt_of_lt_of_le (tape_lt ht) n21.ge
              have l21_HX : w3.heap.size ≤ b21 := Nat.le_trans HX.le n21.ge
              have l21_x4 : b4 < b21 := Nat.lt_of_lt_of_le x4.lt n21.ge
              have l21_HP : w15.heap.size ≤ b21 := Nat.le_trans HP.le n21.ge
              have l21_m2 : bg < b21 := Nat.lt_of_lt_of_le m2.lt n21.ge
              have g21 : w.heap.size ≤ b21 := Nat.le_trans E.size n21.ge
              have g21_E19 : w18.heap.size ≤ b21 := Nat.le_trans E19.size n21.ge
              have g21_E20 : w19.heap.size ≤ b21 := Nat.le_trans E20.size n21.ge
              replace ht := tape_rel ht n21.r (fun _ _ h => h)
              replace HX := HX.nw n21.r
              replace x4 := x4.nw n21.r
              replace HP := HP.nw n21.r
              replace m2 := m2.nw n21.r
              replace E := E.then n21.r (fun _ _ h => h.elim)
              replace E19 := E19.then n21.r (fun _ _ h => h.elim)
              replace E20 := E20.then n21.r (fun _ _ h => h.elim)
              refine Sx.syu (u_stR ty43 rfl rfl rfl x21 rfl rfl) rfl (wnt0 rfl) ?_
              rintro w22 ⟨r22, z22, x22n⟩
              replace ht := tape_rel ht r22 (fun b hb (e : b = b21) => by omega)
              replace HX := HX.ch r22 (by omega)
              replace x4 := x4.ch r22 (by omega)
              replace HP := HP.ch r22 (by omega)
              replace m2 := m2.ch r22 (by omega)
              replace E := E.then r22 (fun x hx (e : x = b21) => show w.heap.size ≤ x by omega)
              replace E19 := E19.then r22 (fun x hx (e : x = b21) => show w18.heap.size ≤ x by omega)
              replace E20 := E20.then r22 (fun x hx (e : x = b21) => show w19.heap.size ≤ x by omega)
              replace x21 := x22n; clear x22n
              refine wnil ?_
              refine Sx.nT ?_
              refine Sx.seq ?_
              refine Sx.reg ?_
              refine Sx.sv (r_fa fo43_0 rfl) rfl (wnt0 rfl) ?_
              refine Sx.sv (r_ld ty3 rfl (x21.seg) rfl) rfl (wnt0 rfl) ?_
              refine Sx.sv (r_mv rfl) rfl (wnt0 rfl) ?_
              refine Sx.sv (r_eq rfl rfl) rfl (wnt0 rfl) ?_
              refine Sx.sv (r_mv rfl) rfl (wnt0 rfl) ?_
              refine Sx.sv (r_fa fo43_1 rfl) rfl (wnt1 (dj := 97) (b0 := true) rfl rfl rfl rfl (decide_eq_true ha) rfl) ?_
              refine Sx.sv (r_ld ty3 rfl (x21.seg) rfl) rfl (wnt1 (dj := 97) (b0 := true) rfl rfl rfl rfl (decide_eq_true ha) rfl) ?_
              refine Sx.sv (r_mv rfl) rfl (wnt1 (dj := 97) (b0 := true) rfl rfl rfl rfl (decide_eq_true ha) rfl) ?_
              refine Sx.sv (r_eq rfl rfl) rfl (wnt1 (dj := 97) (b0 := true) rfl rfl rfl rfl (decide_eq_true ha) rfl) ?_
              refine Sx.sv (r_pkT rfl (decide_eq_true ha) rfl) rfl (wnt0 rfl) ?_
              refine wnil ?_
              refine Sx.nT ?_
              refine Sx.ct rfl (decide_eq_true hb) ?_
              refine Sx.reg ?_
              refine Sx.sv (r_mv rfl) rfl (wnt0 rfl) ?_
              refine Sx.sv (r_fa fo43_2 rfl) rfl (wnt0 rfl) ?_
              refine Sx.sv (r_ld ty3 rfl (x21.seg) rfl) rfl (wnt0 rfl) ?_
              refine Sx.sv (r_max rfl rfl) rfl (wnt0 rfl) ?_
              refine Sx.sv (r_as rfl) rfl (wnt0 rfl) ?_
              refine wnil ?_
              refine Sx.nB ?_
              refine Sx.nT ?_
              refine Sx.reg ?_
              refine Sx.sv (r_add rfl rfl (by omega) (by omega)) rfl (wnt0 rfl) ?_
              refine Sx.sv (r_mv rfl) rfl (wnt0 rfl) ?_
              refine wnil ?_
              refine Sx.nT ?_
              rw [if_pos ⟨ha, hb⟩] at hgt
              exact Sx.lpe (j + 1) ⟨rfl, rfl, rfl, by rw [hgt]; rfl, rfl, rfl, rfl, rfl, rfl, rfl, rfl, trivial⟩ ⟨E20, hlt5⟩ (show _ - (j + 1) < _ - j by omega)
            · refine wp_skip ?_
              refine Sx.nT ?_
              refine Sx.seq ?_
              refine Sx.blk ?_
              refine Sx.seq ?_
              refine Sx.reg ?_
              refine Sx.sv (r_ixi ix27 rfl (by first | rfl | assumption) rfl (by first | rfl | assumption) (by omega)) rfl (wnt0 rfl) ?_
              refine Sx.sv (r_ldr ty43 rfl (m2.seg) rfl) rfl (wnt0 rfl) ?_
              refine Sx.sy (y_all zi43 rfl) rfl (wnt0 rfl) ?_
              rintro _ w23 ⟨b23, rfl, n23, x23⟩
              have l23_ht : b2 < b23 := Nat.lt_of_lt_of_le (tape_lt ht) n23.ge
              have l23_HX : w3.heap.size ≤ b23 := Nat.le_trans HX.le n23.ge
              have l23_x4 : b4 < b23 := Nat.lt_of_lt_of_le x4.lt n23.ge
              have l23_HP : w15.heap.size ≤ b23 := Nat.le_trans HP.le n23.ge
              have l23_m2 : bg < b23 := Nat.lt_of_lt_of_le m2.lt n23.ge
              have g23 : w.heap.size ≤ b23 := Nat.le_trans E.size n23.ge
              have g23_E19 : w18.heap.size ≤ b23 := Nat.le_trans E19.size n23.ge
              have g23_E20 : w19.heap.size ≤ b23 := Nat.le_trans E20.size n23.ge
              replace ht := tape_rel ht n23.r (fun _ _ h => h)
              replace HX := HX.nw n23.r
              replace x4 := x4.nw n23.r
              replace HP := HP.nw n23.r
              replace m2 := m2.nw n23.r
              replace E := E.then n23.r (fun _ _ h => h.elim)
              replace E19 := E19.then n23.r (fun _ _ h => h.elim)
              replace E20 := E20.then n23.r (fun _ _ h => h.elim)
              refine Sx.syu (u_stR ty43 rfl rfl rfl x23 rfl rfl) rfl (wnt0 rfl) ?_
              rintro w24 ⟨r24, z24, x24n⟩
              replace ht := tape_rel ht r24 (fun b hb (e : b = b23) => by omega)
              replace HX := HX.ch r24 (by omega)
              replace x4 := x4.ch r24 (by omega)
              replace HP := HP.ch r24 (by omega)
              replace m2 := m2.ch r24 (by omega)
              replace E := E.then r24 (fun x hx (e : x = b23) => show w.heap.size ≤ x by omega)
              replace E19 := E19.then r24 (fun x hx (e : x = b23) => show w18.heap.size ≤ x by omega)
              replace E20 := E20.then r24 (fun x hx (e : x = b23) => show w19.heap.size ≤ x by omega)
              replace x23 := x24n; clear x24n
              refine wnil ?_
              refine Sx.nT ?_
              refine Sx.seq ?_
              refine Sx.reg ?_
              refine Sx.sv (r_fa fo43_0 rfl) rfl (wnt0 rfl) ?_
              refine Sx.sv (r_ld ty3 rfl (x23.seg) rfl) rfl (wnt0 rfl) ?_
              refine Sx.sv (r_mv rfl) rfl (wnt0 rfl) ?_
              refine Sx.sv (r_eq rfl rfl) rfl (wnt0 rfl) ?_
              refine Sx.sv (r_mv rfl) rfl (wnt0 rfl) ?_
              refine Sx.sv (r_fa fo43_1 rfl) rfl (wnt1 (dj := 97) (b0 := true) rfl rfl rfl rfl (decide_eq_true ha) rfl) ?_
              refine Sx.sv (r_ld ty3 rfl (x23.seg) rfl) rfl (wnt1 (dj := 97) (b0 := true) rfl rfl rfl rfl (decide_eq_true ha) rfl) ?_
              refine Sx.sv (r_mv rfl) rfl (wnt1 (dj := 97) (b0 := true) rfl rfl rfl rfl (decide_eq_true ha) rfl) ?_
              refine Sx.sv (r_eq rfl rfl) rfl (wnt1 (dj := 97) (b0 := true) rfl rfl rfl rfl (decide_eq_true ha) rfl) ?_
              refine Sx.sv (r_pkT rfl (decide_eq_true ha) rfl) rfl (wnt0 rfl) ?_
              refine wnil ?_
              refine Sx.nT ?_
              refine Sx.cf rfl (decide_eq_false hb) ?_
              refine wp_skip ?_
              refine Sx.nB ?_
              refine Sx.nT ?_
              refine Sx.reg ?_
              refine Sx.sv (r_add rfl rfl (by omega) (by omega)) rfl (wnt0 rfl) ?_
              refine Sx.sv (r_mv rfl) rfl (wnt0 rfl) ?_
              refine wnil ?_
              refine Sx.nT ?_
              rw [if_neg (fun h => hb h.2)] at hgt
              exact Sx.lpe (j + 1) ⟨rfl, rfl, rfl, by rw [hgt]; rfl, rfl, rfl, rfl, rfl, rfl, rfl, rfl, trivial⟩ ⟨E20, hlt5⟩ (show _ - (j + 1) < _ - j by omega)
          · refine wp_skip ?_
            refine Sx.nT ?_
            refine Sx.seq ?_
            refine Sx.blk ?_
            refine Sx.seq ?_
            refine Sx.reg ?_
            refine Sx.sv (r_ixi ix27 rfl (by first | rfl | assumption) rfl (by first | rfl | assumption) (by omega)) rfl (wnt0 rfl) ?_
            refine Sx.sv (r_ldr ty43 rfl (m2.seg) rfl) rfl (wnt0 rfl) ?_
            refine Sx.sy (y_all zi43 rfl) rfl (wnt0 rfl) ?_
            rintro _ w25 ⟨b25, rfl, n25, x25⟩
            have l25_ht : b2 < b25 := Nat.lt_of_lt_of_le (tape_lt ht) n25.ge
            have l25_HX : w3.heap.size ≤ b25 := Nat.le_trans HX.le n25.ge
            have l25_x4 : b4 < b25 := Nat.lt_of_lt_of_le x4.lt n25.ge
            have l25_HP : w15.heap.size ≤ b25 := Nat.le_trans HP.le n25.ge
            have l25_m2 : bg < b25 := Nat.lt_of_lt_of_le m2.lt n25.ge
            have g25 : w.heap.size ≤ b25 := Nat.le_trans E.size n25.ge
            have g25_E19 : w18.heap.size ≤ b25 := Nat.le_trans E19.size n25.ge
            have g25_E20 : w19.heap.size ≤ b25 := Nat.le_trans E20.size n25.ge
            replace ht := tape_rel ht n25.r (fun _ _ h => h)
            replace HX := HX.nw n25.r
            replace x4 := x4.nw n25.r
            replace HP := HP.nw n25.r
            replace m2 := m2.nw n25.r
            replace E := E.then n25.r (fun _ _ h => h.elim)
            replace E19 := E19.then n25.r (fun _ _ h => h.elim)
            replace E20 := E20.then n25.r (fun _ _ h => h.elim)
            refine Sx.syu (u_stR ty43 rfl rfl rfl x25 rfl rfl) rfl (wnt0 rfl) ?_
            rintro w26 ⟨r26, z26, x26n⟩
            replace ht := tape_rel ht r26 (fun b hb (e : b = b25) => by omega)
            replace HX := HX.ch r26 (by omega)
            replace x4 := x4.ch r26 (by omega)
            replace HP := HP.ch r26 (by omega)
            replace m2 := m2.ch r26 (by omega)
            replace E := E.then r26 (fun x hx (e : x = b25) => show w.heap.size ≤ x by omega)
            replace E19 := E19.then r26 (fun x hx (e : x = b25) => show w18.heap.size ≤ x by omega)
            replace E20 := E20.then r26 (fun x hx (e : x = b25) => show w19.heap.size ≤ x by omega)
            replace x25 := x26n; clear x26n
            refine wnil ?_
            refine Sx.nT ?_
            refine Sx.seq ?_
            refine Sx.reg ?_
            refine Sx.sv (r_fa fo43_0 rfl) rfl (wnt0 rfl) ?_
            refine Sx.sv (r_ld ty3 rfl (x25.seg) rfl) rfl (wnt0 rfl) ?_
            refine Sx.sv (r_mv rfl) rfl (wnt0 rfl) ?_
            refine Sx.sv (r_eq rfl rfl) rfl (wnt0 rfl) ?_
            refine Sx.sv (r_mv rfl) rfl (wnt0 rfl) ?_
            refine Sx.sg (wntF (dj := 97) (b0 := false) rfl rfl rfl rfl (decide_eq_false ha) rfl) rfl ?_
            refine Sx.sg (wntF (dj := 97) (b0 := false) rfl rfl rfl rfl (decide_eq_false ha) rfl) rfl ?_
            refine Sx.sg (wntF (dj := 97) (b0 := false) rfl rfl rfl rfl (decide_eq_false ha) rfl) rfl ?_
            refine Sx.sg (wntF (dj := 97) (b0 := false) rfl rfl rfl rfl (decide_eq_false ha) rfl) rfl ?_
            refine Sx.sv (r_pkF rfl (decide_eq_false ha) rfl) rfl (wnt0 rfl) ?_
            refine wnil ?_
            refine Sx.nT ?_
            refine Sx.cf rfl (rfl) ?_
            refine wp_skip ?_
            refine Sx.nB ?_
            refine Sx.nT ?_
            refine Sx.reg ?_
            refine Sx.sv (r_add rfl rfl (by omega) (by omega)) rfl (wnt0 rfl) ?_
            refine Sx.sv (r_mv rfl) rfl (wnt0 rfl) ?_
            refine wnil ?_
            refine Sx.nT ?_
            rw [if_neg (fun h => ha h.1)] at hgt
            exact Sx.lpe (j + 1) ⟨rfl, rfl, rfl, by rw [hgt]; rfl, rfl, rfl, rfl, rfl, rfl, rfl, rfl, trivial⟩ ⟨E20, hlt5⟩ (show _ - (j + 1) < _ - j by omega)
        · refine Sx.cf rfl (decide_eq_false (by omega)) ?_
          obtain rfl : j = x.g.length := by omega
          refine wp_exit ?_
          refine Sx.eT ?_
          refine Sx.eT ?_
          refine Sx.eB ?_
          refine Sx.nT ?_
          refine Sx.seq ?_
          refine Sx.reg ?_
          refine Sx.sv (r_mv rfl) rfl (wnt0 rfl) ?_
          refine Sx.sv (r_mv rfl) rfl (wnt0 rfl) ?_
          refine Sx.sv (r_ne rfl rfl) rfl (wnt0 rfl) ?_
          refine wnil ?_
          refine Sx.nT ?_
          refine Sx.cf rfl (decide_eq_false (fun h => h rfl)) ?_
          refine wp_skip ?_
          refine Sx.nB ?_
          refine Sx.nT ?_
          refine Sx.reg ?_
          refine Sx.sv (r_add rfl rfl (by omega) (by omega)) rfl (wnt0 rfl) ?_
          refine Sx.sv (r_mv rfl) rfl (wnt0 rfl) ?_
          refine wnil ?_
          refine Sx.nT ?_
          exact Sx.lpe (i + 1) ⟨rfl, rfl, rfl, rfl, rfl, trivial⟩ ⟨E19, hlt4⟩ (show _ - (i + 1) < _ - i by omega)
      · refine Sx.cf rfl (decide_eq_false (by omega)) ?_
        refine wp_exit ?_
        refine Sx.eT ?_
        refine Sx.eT ?_
        refine Sx.eB ?_
        refine Sx.nT ?_
        refine Sx.seq ?_
        refine Sx.reg ?_
        have tq27_ht := tape_lt ht
        refine Sx.sc (r_call en7 rfl) rfl (wnt0 rfl) (awake_any _) ?_
        rintro e w27 ⟨rfl, hb27⟩
        refine ⟨_, rfl, ?_⟩
        have r27 := Rel.of0 hb27
        replace ht := tape_rel ht r27 (fun _ _ h => h)
        replace HX := HX.nw r27
        replace x4 := x4.nw r27
        replace HP := HP.nw r27
        replace E := E.then r27 (fun _ _ h => h.elim)
        refine Sx.sv (r_as rfl) rfl (wnt0 rfl) ?_
        refine wnil ?_
        refine Sx.nT ?_
        refine wp_ret ?_
        exact Sx.ret1 Try.results6 rfl ⟨rfl, E.toB0⟩

/-! ### THE ROW's STEP: WRITTEN OUT: LEAVE IT -/
set_option maxRecDepth 100000 in
theorem lifted (os : Os) (started : os.Started) (H : Type) (enc : TypeId × Value → H) :
    ReturnsInHanded {} Try.checked os 6 .any (Rows.rightsAloneSpec.pre6 enc Try.prog Try.f6 Rows.rightsAloneRow.domain false) (Rows.rightsAloneSpec.post enc Try.prog Try.f6 false true false false) := by
  refine returnsInHanded_of_change (C := Try.checked) own started (by kernel_rfl) Try.func6
    (ChangeSpec.witness6 (enc := enc) (C := Try.checked) false ⟨#[], #[.slice none 0 0], []⟩ 8 (by kernel_rfl) (by kernel_rfl) (by kernel_rfl) (by kernel_rfl)) ?_
  intro W base args ds gs before hval0 hW hcnd _
  have hval : ∀ (j : Nat) t v, Try.f6.params[j]? = some t → args[j]? = some v → Value.okWide Try.prog W .any base t v := hval0
  have hW' := hW
  obtain ⟨p, q, hA0, hV, rfl, hfz, hnd⟩ := hW
  have hA : DataW.TrodAll enc Try.prog W 0 (fun _ => true) true Try.f6.params.toList args.toList ds p := hA0
  rw [Try.params6] at hA hval
  obtain ⟨v0, vs0, d0, ds0, p0, q0, hargs, rfl, rfl, h0, r0⟩ := trodAll_cons hA
  obtain ⟨rfl, rfl, rfl⟩ := trodAll_nil r0
  obtain rfl : args = #[v0] := by cases args; simp_all
  obtain ⟨rfl, rfl⟩ := trodVars_none hV
  obtain ⟨a0, len0, cap0, rfl⟩ := okWide_slice Try.underlying22 (hval 0 22 v0 rfl rfl)
  have k0 := h0
  have lt0 : ∀ x ∈ p0, x.block < W.heap.size := by obtain ⟨m, hm⟩ := k0; exact DataW.trod_lt m _ _ _ hm
  obtain ⟨z0, w0⟩ : ∃ zs, IsRow .i64 W a0 len0 cap0 zs := by
    obtain ⟨fuel, hf⟩ := h0
    rcases open_ints Try.underlying22 Try.underlying3 (by kernel_rfl) hf with ⟨hcs, _⟩ | ⟨x, l, c, zs, hcs, _, hl, hm, hz, _, hcell, hwz⟩
    · simp [Value.cells] at hcs
      obtain ⟨rfl, rfl, rfl⟩ := hcs
      exact ⟨[], .inl ⟨rfl, rfl, rfl, rfl⟩⟩
    · simp [Value.cells] at hcs
      obtain ⟨rfl, rfl, rfl⟩ := hcs
      exact ⟨zs, .inr ⟨_, rfl, hl, hm, by simpa using hz, hcell, hwz⟩⟩
  clear hA0 hval0
  refine (walk a0 len0 cap0 z0 W w0).mono fun e W' ⟨he, bel⟩ => ?_
  subst he
  exact ⟨_, rfl, _, _, _, [], _, [], hW', trodAll_mk1 (shut_bool Try.underlying4 _), (trodAll_cons_mk (Below.trod laidOut (by kernel_rfl) (of_decide_eq_true (by kernel_rfl)) k0 bel lt0) trodAll_mk0), rfl, bel.frame _, fun h => by cases h⟩

theorem over : Rows.rightsAloneRow.holds Try.pinned (OpenSpec.ofChange Rows.rightsAloneSpec) :=
  OpenClaim.holds_of_wide 6 Try.f6 rfl rfl rfl rfl rfl rfl rfl ⟨rfl, rfl, rfl, rfl, rfl⟩ rfl rfl rfl rfl rfl (by kernel_rfl) Try.func6 (by kernel_rfl)
    (of_decide_eq_true (by kernel_rfl)) (by unfold Func.isWrapper; first | (rw [if_pos (by decide +kernel)]; kernel_rfl) | (rw [if_neg (by decide +kernel)]; exact ⟨rfl, rfl⟩))
    (fun os started H enc _ => lifted os started H enc)

/-- ████ THE STATEMENT ████ -/
theorem proved : Rows.RightsAloneSaid := over
#print axioms proved
end Go.Proofs.Ytahggnlmabdbbaa.rightsAlone
