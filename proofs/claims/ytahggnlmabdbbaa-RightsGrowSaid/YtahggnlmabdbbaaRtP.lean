import Derived.Test.YtahggnlmabdbbaaRtL
namespace Go.Proofs.Ytahggnlmabdbbaa.Di
open Go.RowKit Go.Shelf Go.Maps
open Go.Proofs.Ytahggnlmabdbbaa.Tp
open Go.Proofs.Ytahggnlmabdbbaa.Sx
set_option linter.unusedVariables false
def isL (a b : T4) : Bool := decide (a.a = b.a ∧ a.b = b.b ∧ a.c = b.c ∧ a.d = b.d)
theorem isL_iff {a b : T4} : isL a b = true ↔ a = b := by
  unfold isL
  rw [decide_eq_true_iff]
  constructor
  · rintro ⟨h1, h2, h3, h4⟩; cases a; cases b; simp_all
  · rintro rfl; exact ⟨rfl, rfl, rfl, rfl⟩
set_option maxRecDepth 100000 in
set_option maxHeartbeats 4000000 in
theorem pr1_call (q : T4) (e : T5) (bq : Nat) (w : World) (hq : Bx w bq [.int .i64 q.a, .int .i64 q.b, .int .i64 q.c, .int .i64 q.d] 61) :
    Calls Try.prog 30 #[.agg (c5 e), .pointer (some ⟨bq, 0, none⟩)] w fun r w' => r = .returned (.bool (isL e.l q)) ∧ Below w.heap.size w w' := by
  have E : Rel (fun x => w.heap.size ≤ x) w w := Rel.refl _ _
  refine Sx.enter Try.func30 rfl Try.ntmps30 rfl (fun fr => ?_)
  refine Sx.seq ?_
  refine Sx.reg ?_
  refine Sx.sy (y_box rfl rfl) rfl (wnt0 rfl) ?_
  rintro _ w1 ⟨b1, rfl, n1, x1⟩
  have l1_hq : bq < b1 := Nat.lt_of_lt_of_le hq.lt n1.ge
  have g1 : w.heap.size ≤ b1 := Nat.le_trans E.size n1.ge
  replace hq := hq.nw n1.r
  replace E := E.then n1.r (fun _ _ h => h.elim)
  refine Sx.sv (r_as rfl) rfl (wnt0 rfl) ?_
  refine wnil ?_
  refine Sx.nT ?_
  refine Sx.seq ?_
  refine Sx.reg ?_
  refine Sx.sv (r_fa fo65_0 rfl) rfl (wnt0 rfl) ?_
  refine Sx.sv (r_ldr0 ty61 rfl (m := [_, _, _, _]) (x1.seg) rfl rfl) rfl (wnt0 rfl) ?_
  refine Sx.sv (r_ldr ty61 rfl (hq.seg) rfl) rfl (wnt0 rfl) ?_
  refine Sx.sv (r_eqS eg61_eql rfl rfl (eqS61 _ _ _ _ _ _ _ _)) rfl (wnt0 rfl) ?_
  refine Sx.sv (r_as rfl) rfl (wnt0 rfl) ?_
  refine wnil ?_
  refine Sx.nT ?_
  refine wp_ret ?_
  refine Sx.ret1 Try.results30 rfl ⟨rfl, E.toB0⟩
set_option maxRecDepth 100000 in
set_option maxHeartbeats 4000000 in
theorem t_idx (l : List T5) (q : T4) (bq : Nat) (A : Option Addr) (c : Nat) (w : World) (h : Row w 0 5 A l.length (v5 l)) (hn : l.length ≤ 1099511627776) (hq : Bx w bq [.int .i64 q.a, .int .i64 q.b, .int .i64 q.c, .int .i64 q.d] 61) :
    Calls Try.prog 28 #[.slice A l.length c, .func (.func 30) #[] #[.pointer (some ⟨bq, 0, none⟩)]] w fun e w' => Below w.heap.size w w' ∧ ((e = .returned (.int .i64 (-1)) ∧ ∀ j, j < l.length → (e5 l j).l ≠ q) ∨ ∃ j : Nat, j < l.length ∧ e = .returned (.int .i64 (j : Int)) ∧ (e5 l j).l = q) := by
  have HL := Has.row h
  have E : Rel (fun x => w.heap.size ≤ x) w w := Rel.refl _ _
  refine Sx.enter Try.func28 rfl Try.ntmps28 rfl (fun fr => ?_)
  refine Sx.seq ?_
  refine Sx.reg ?_
  refine Sx.sv (r_as rfl) rfl (wnt0 rfl) ?_
  refine wnil ?_
  refine Sx.nT ?_
  refine Sx.seq ?_
  refine Sx.seq ?_
  refine Sx.reg ?_
  refine Sx.sv (r_mv rfl) rfl (wnt0 rfl) ?_
  refine Sx.sv (r_ln Try.underlying63 rfl) rfl (wnt0 rfl) ?_
  refine Sx.sv (r_mv rfl) rfl (wnt0 rfl) ?_
  refine wnil ?_
  refine Sx.nT ?_
  refine Sx.blk ?_
  refine Sx.lp (Nat) (fun k => [(8, .int .i64 (k : Int)), (7, .int .i64 (l.length : Int)), (0, .slice A l.length c), (1, .func (.func 30) #[] #[.pointer (some ⟨bq, 0, none⟩)])]) (fun k wr => k ≤ l.length ∧ (∀ j, j < k → (e5 l j).l ≠ q) ∧ Bx wr bq [.int .i64 q.a, .int .i64 q.b, .int .i64 q.c, .int .i64 q.d] 61 ∧ Rel (fun x => w.heap.size ≤ x) w wr) (fun k => l.length - k) 0 ⟨rfl, rfl, rfl, rfl, trivial⟩ ⟨Nat.zero_le _, fun j hj => absurd hj (by omega), hq, E⟩ ?_
  rintro k fr w1 ⟨hk, hno, hq, E⟩
  show Code.wp _ _ _ (Fa fr [(8, .int .i64 (k : Int)), (7, .int .i64 (l.length : Int)), (0, .slice A l.length c), (1, .func (.func 30) #[] #[.pointer (some ⟨bq, 0, none⟩)])]) _
  refine Sx.seq ?_
  refine Sx.reg ?_
  refine Sx.sv (r_lt rfl rfl) rfl (wnt0 rfl) ?_
  refine wnil ?_
  refine Sx.nT ?_
  refine Sx.seq ?_
  by_cases hlt : k < l.length
  · refine Sx.ct rfl (decide_eq_true (by omega)) ?_
    obtain ⟨b, off, hA, -, hb, hc⟩ := (HL.old E).ok.t5 hlt
    have m1 : Me _ b (off + k * 5) _ := ⟨hb, hc.seg⟩
    refine wp_skip ?_
    refine Sx.nT ?_
    refine Sx.seq ?_
    refine Sx.blk ?_
    refine Sx.seq ?_
    refine Sx.reg ?_
    refine Sx.sv (r_mv rfl) rfl (wnt0 rfl) ?_
    refine Sx.sv (r_as rfl) rfl (wnt0 rfl) ?_
    refine wnil ?_
    refine Sx.nT ?_
    refine Sx.seq ?_
    refine Sx.reg ?_
    refine Sx.sv (r_mv rfl) rfl (wnt0 rfl) ?_
    refine Sx.sv (r_mv rfl) rfl (wnt0 rfl) ?_
    refine Sx.sv (r_mv rfl) rfl (wnt0 rfl) ?_
    refine Sx.sv (r_ixi ix63 rfl (by first | rfl | assumption) rfl (by first | rfl | assumption) (by omega)) rfl (wnt0 rfl) ?_
    refine Sx.sv (r_ldr ty65 rfl (m1.seg) rfl) rfl (wnt0 rfl) ?_
    refine Sx.sc (r_callv en30 rfl rfl) rfl (wnt0 rfl) (pr1_call q (e5 l k) bq _ hq) ?_
    rintro e w2 ⟨rfl, hb2⟩
    refine ⟨_, rfl, ?_⟩
    have r2 := Rel.of0 hb2
    replace hq := hq.nw r2
    replace m1 := m1.nw r2
    replace E := E.then r2 (fun _ _ h => h.elim)
    refine wnil ?_
    refine Sx.nT ?_
    by_cases hi : (e5 l k).l = q
    · refine Sx.ct rfl (isL_iff.2 hi) ?_
      refine Sx.seq ?_
      refine Sx.reg ?_
      refine Sx.sv (r_mv rfl) rfl (wnt0 rfl) ?_
      refine Sx.sv (r_as rfl) rfl (wnt0 rfl) ?_
      refine wnil ?_
      refine Sx.nT ?_
      refine wp_ret ?_
      refine Sx.rB ?_
      refine Sx.rT ?_
      refine Sx.rT ?_
      refine Sx.rB ?_
      refine Sx.rT ?_
      exact Sx.ret1 Try.results28 rfl ⟨E.toB0, .inr ⟨k, hlt, rfl, hi⟩⟩
    · refine Sx.cf rfl (Bool.eq_false_iff.2 (fun h => hi (isL_iff.1 h))) ?_
      refine wp_skip ?_
      refine Sx.nB ?_
      refine Sx.nT ?_
      refine Sx.reg ?_
      refine Sx.sv (r_add rfl rfl (by omega) (by omega)) rfl (wnt0 rfl) ?_
      refine Sx.sv (r_mv rfl) rfl (wnt0 rfl) ?_
      refine wnil ?_
      refine Sx.nT ?_
      exact Sx.lpe (k + 1) ⟨rfl, rfl, rfl, rfl, trivial⟩ ⟨hlt, fun j hj => if e : j = k then e ▸ hi else hno j (by omega), hq, E⟩ (show _ - (k + 1) < _ - k by omega)
  · refine Sx.cf rfl (decide_eq_false (by omega)) ?_
    refine wp_exit ?_
    refine Sx.eT ?_
    refine Sx.eT ?_
    refine Sx.eB ?_
    refine Sx.nT ?_
    refine Sx.seq ?_
    refine Sx.reg ?_
    refine Sx.sv (r_as rfl) rfl (wnt0 rfl) ?_
    refine wnil ?_
    refine Sx.nT ?_
    refine wp_ret ?_
    exact Sx.ret1 Try.results28 rfl ⟨E.toB0, .inl ⟨rfl, fun j hj => hno j (by omega)⟩⟩
end Go.Proofs.Ytahggnlmabdbbaa.Di
