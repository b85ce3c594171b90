import Derived.Test.YtahggnlmabdbbaaSxR
namespace Go.Proofs.Ytahggnlmabdbbaa.Di
open Go.RowKit Go.Shelf Go.Maps
open Go.Proofs.Ytahggnlmabdbbaa.Tp
open Go.Proofs.Ytahggnlmabdbbaa.Sx
set_option linter.unusedVariables false
theorem e0_ext {l m : List Int} (h : l.length = m.length) (he : ∀ j, j < l.length → e0 l j = e0 m j) : l = m := by
  apply List.ext_getElem h
  intro i h1 h2
  have := he i h1
  unfold e0 at this
  simpa [List.getD_eq_getElem?_getD, h1, h2] using this
set_option maxRecDepth 100000 in
set_option maxHeartbeats 2000000 in
theorem has_any (l : List Int) (y : Int) (A : Option Addr) (c : Nat) (w : World) (h : Row w 0 1 A l.length (zv l)) (hn : l.length ≤ 1099511627776) :
    Calls Try.prog 12 #[.slice A l.length c, .int .i64 y] w fun e w' => e = .returned (.bool (inB l y)) ∧ w = w' := by
  refine Sx.enter Try.func12 rfl Try.ntmps12 rfl (fun fr => ?_)
  refine Sx.seq ?_
  refine Sx.reg ?_
  refine Sx.sv (r_as rfl) rfl (wnt0 rfl) ?_
  refine wnil ?_
  refine Sx.nT ?_
  refine Sx.seq ?_
  refine Sx.seq ?_
  refine Sx.reg ?_
  refine Sx.sv (r_mv rfl) rfl (wnt0 rfl) ?_
  refine Sx.sv (r_ln Try.underlying22 rfl) rfl (wnt0 rfl) ?_
  refine Sx.sv (r_mv rfl) rfl (wnt0 rfl) ?_
  refine wnil ?_
  refine Sx.nT ?_
  refine Sx.blk ?_
  refine Sx.lp (Nat) (fun k => [(9, .int .i64 (k : Int)), (7, .slice A l.length c), (8, .int .i64 (l.length : Int)), (1, .int .i64 y)]) (fun k wr => k ≤ l.length ∧ (∀ j, j < k → e0 l j ≠ y) ∧ w = wr) (fun k => l.length - k) 0 ⟨rfl, rfl, rfl, rfl, trivial⟩ ⟨Nat.zero_le _, fun j hj => absurd hj (by omega), rfl⟩ ?_
  rintro k fr w1 ⟨hk, hno, rfl⟩
  show Code.wp _ _ _ (Fa fr [(9, .int .i64 (k : Int)), (7, .slice A l.length c), (8, .int .i64 (l.length : Int)), (1, .int .i64 y)]) _
  refine Sx.seq ?_
  refine Sx.reg ?_
  refine Sx.sv (r_lt rfl rfl) rfl (wnt0 rfl) ?_
  refine wnil ?_
  refine Sx.nT ?_
  refine Sx.seq ?_
  by_cases hlt : k < l.length
  · refine Sx.ct rfl (decide_eq_true (by omega)) ?_
    obtain ⟨b, off, hA, -, -, hc⟩ := h.z hlt
    refine wp_skip ?_
    refine Sx.nT ?_
    refine Sx.seq ?_
    refine Sx.blk ?_
    refine Sx.seq ?_
    refine Sx.reg ?_
    refine Sx.sv (r_ix1i ix22 rfl (by first | rfl | assumption) rfl (by first | rfl | assumption) (by omega)) rfl (wnt0 rfl) ?_
    refine Sx.sv (by first | exact r_ld ty3 rfl (by assumption) rfl | exact r_ldc ty3 rfl (by assumption)) rfl (wnt0 rfl) ?_
    refine Sx.sv (r_as rfl) rfl (wnt0 rfl) ?_
    refine wnil ?_
    refine Sx.nT ?_
    refine Sx.seq ?_
    refine Sx.reg ?_
    refine Sx.sv (r_mv rfl) rfl (wnt0 rfl) ?_
    refine Sx.sv (r_mv rfl) rfl (wnt0 rfl) ?_
    refine Sx.sv (r_eq rfl rfl) rfl (wnt0 rfl) ?_
    refine wnil ?_
    refine Sx.nT ?_
    by_cases hy : e0 l k = y
    · refine Sx.ct rfl (decide_eq_true hy) ?_
      refine Sx.seq ?_
      refine Sx.reg ?_
      refine Sx.sv (r_as rfl) rfl (wnt0 rfl) ?_
      refine wnil ?_
      refine Sx.nT ?_
      refine wp_ret ?_
      refine Sx.rB ?_
      refine Sx.rT ?_
      refine Sx.rT ?_
      refine Sx.rB ?_
      refine Sx.rT ?_
      refine Sx.ret1 Try.results12 rfl ⟨?_, rfl⟩
      rw [show inB l y = true from inB_iff.2 (hy ▸ e0_mem hlt)]
    · refine Sx.cf rfl (decide_eq_false hy) ?_
      refine wp_skip ?_
      refine Sx.nB ?_
      refine Sx.nT ?_
      refine Sx.reg ?_
      refine Sx.sv (r_add rfl rfl (by omega) (by omega)) rfl (wnt0 rfl) ?_
      refine Sx.sv (r_mv rfl) rfl (wnt0 rfl) ?_
      refine wnil ?_
      refine Sx.nT ?_
      exact Sx.lpe (k + 1) ⟨rfl, rfl, rfl, rfl, trivial⟩ ⟨hlt, fun j hj => (by by_cases e : j = k; exact e ▸ hy; exact hno j (by omega)), rfl⟩ (show _ - (k + 1) < _ - k by omega)
  · refine Sx.cf rfl (decide_eq_false (by omega)) ?_
    refine wp_exit ?_
    refine Sx.eT ?_
    refine Sx.eT ?_
    refine Sx.eB ?_
    refine Sx.nT ?_
    refine Sx.seq ?_
    refine Sx.reg ?_
    refine Sx.sv (r_as rfl) rfl (wnt0 rfl) ?_
    refine wnil ?_
    refine Sx.nT ?_
    refine wp_ret ?_
    refine Sx.ret1 Try.results12 rfl ⟨?_, rfl⟩
    have e1 : inB l y = false := by
      cases hi : inB l y with
      | false => rfl
      | true =>
        obtain ⟨j, hj, e⟩ := e0_of (inB_iff.1 hi)
        exact absurd e (hno j (by omega))
    rw [e1]
set_option maxRecDepth 100000 in
set_option maxHeartbeats 2000000 in
theorem ints_any (l m : List Int) (A A' : Option Addr) (c c' : Nat) (w : World) (h : Row w 0 1 A l.length (zv l)) (h' : Row w 0 1 A' m.length (zv m)) (hn : l.length ≤ 1099511627776) :
    Calls Try.prog 14 #[.slice A l.length c, .slice A' m.length c'] w fun e w' => e = .returned (.bool (decide (l = m))) ∧ Rel NoC w w' := by
  refine Sx.enter Try.func14 rfl Try.ntmps14 rfl (fun fr => ?_)
  refine Sx.seq ?_
  refine Sx.reg ?_
  refine Sx.sv (r_as rfl) rfl (wnt0 rfl) ?_
  refine wnil ?_
  refine Sx.nT ?_
  refine Sx.seq ?_
  refine Sx.seq ?_
  refine Sx.reg ?_
  refine Sx.sv (r_mv rfl) rfl (wnt0 rfl) ?_
  refine Sx.sv (r_ln Try.underlying22 rfl) rfl (wnt0 rfl) ?_
  refine Sx.sv (r_mv rfl) rfl (wnt0 rfl) ?_
  refine Sx.sv (r_ln Try.underlying22 rfl) rfl (wnt0 rfl) ?_
  refine Sx.sv (r_ne rfl rfl) rfl (wnt0 rfl) ?_
  refine wnil ?_
  refine Sx.nT ?_
  by_cases hlen : l.length ≠ m.length
  · refine Sx.ct rfl (decide_eq_true (by omega)) ?_
    refine Sx.seq ?_
    refine Sx.reg ?_
    refine Sx.sv (r_as rfl) rfl (wnt0 rfl) ?_
    refine wnil ?_
    refine Sx.nT ?_
    refine wp_ret ?_
    refine Sx.rT ?_
    refine Sx.ret1 Try.results14 rfl ⟨?_, Rel.refl _ _⟩
    rw [decide_eq_false (fun e => hlen (by rw [e]))]
  · refine Sx.cf rfl (decide_eq_false (by omega)) ?_
    refine wp_skip ?_
    refine Sx.nT ?_
    refine Sx.seq ?_
    refine Sx.seq ?_
    refine Sx.reg ?_
    refine Sx.sv (r_mv rfl) rfl (wnt0 rfl) ?_
    refine Sx.sv (r_ln Try.underlying22 rfl) rfl (wnt0 rfl) ?_
    refine Sx.sv (r_mv rfl) rfl (wnt0 rfl) ?_
    refine wnil ?_
    refine Sx.nT ?_
    refine Sx.blk ?_
    refine Sx.lp (Nat) (fun k => [(13, .int .i64 (k : Int)), (12, .int .i64 (l.length : Int)), (0, .slice A l.length c), (1, Value.slice A' m.length c')]) (fun k wr => k ≤ l.length ∧ (∀ j, j < k → e0 l j = e0 m j) ∧ Rel NoC w wr) (fun k => l.length - k) 0 ⟨rfl, rfl, rfl, rfl, trivial⟩ ⟨Nat.zero_le _, fun j hj => absurd hj (by omega), Rel.refl _ _⟩ ?_
    rintro k fr w1 ⟨hk, heq, E⟩
    show Code.wp _ _ _ (Fa fr [(13, .int .i64 (k : Int)), (12, .int .i64 (l.length : Int)), (0, .slice A l.length c), (1, Value.slice A' m.length c')]) _
    refine Sx.seq ?_
    refine Sx.reg ?_
    refine Sx.sv (r_lt rfl rfl) rfl (wnt0 rfl) ?_
    refine wnil ?_
    refine Sx.nT ?_
    refine Sx.seq ?_
    by_cases hlt : k < l.length
    · refine Sx.ct rfl (decide_eq_true (by omega)) ?_
      obtain ⟨b, off, hA, -, hb1, hc⟩ := h.z hlt
      obtain ⟨b', off', hA', -, hb2, hc'⟩ := h'.z (show k < m.length by omega)
      have m1 : Me w b (off + k) [_] := .one hb1 hc
      have m2 : Me w b' (off' + k) [_] := .one hb2 hc'
      replace m1 := m1.nw E
      replace m2 := m2.nw E
      refine wp_skip ?_
      refine Sx.nT ?_
      refine Sx.seq ?_
      refine Sx.blk ?_
      refine Sx.seq ?_
      refine Sx.reg ?_
      refine Sx.sv (r_mv rfl) rfl (wnt0 rfl) ?_
      refine Sx.sv (r_as rfl) rfl (wnt0 rfl) ?_
      refine wnil ?_
      refine Sx.nT ?_
      refine Sx.seq ?_
      refine Sx.drg 9 (fun w2 wv => Rel (fun x => False) w2 wv) mx (fun w2 hd => ?_)
      replace m1 := m1.nw hd
      replace m2 := m2.nw hd
      replace E := E.then hd (fun _ _ h => h.elim)
      have q_m1 := m1.lt
      have q_m2 := m2.lt
      have d_m1 := m1
      have d_m2 := m2
      have hS : Rel (fun x => False) w2 w2 := Rel.refl _ _
      refine Sx.dt (i := 0) rfl (by kernel_rfl) (by kernel_rfl) (by kernel_rfl) (by kernel_rfl) (fun _ _ _ _ h => h) rfl (wnt0 rfl) (fun wv h2 => r_mv rfl) hS ?_
      refine Sx.dt (i := 1) rfl (by kernel_rfl) (by kernel_rfl) (by kernel_rfl) (by kernel_rfl) (fun _ _ _ _ h => h) rfl (wnt0 rfl) (fun wv h2 => r_mv rfl) hS ?_
      refine Sx.dt (i := 4) rfl (by kernel_rfl) (by kernel_rfl) (by kernel_rfl) (by kernel_rfl) (fun _ _ _ _ h => h) rfl (wnt0 rfl) (fun wv h2 => r_mv rfl) hS ?_
      refine Sx.dt (i := 5) rfl (by kernel_rfl) (by kernel_rfl) (by kernel_rfl) (by kernel_rfl) (fun _ _ _ _ h => h) rfl (wnt0 rfl) (fun wv h2 => r_mv rfl) hS ?_
      refine Sx.dt (i := 2) rfl (by kernel_rfl) (by kernel_rfl) (by kernel_rfl) (by kernel_rfl) (fun _ _ _ _ h => h) rfl (wnt0 rfl) (fun wv h2 => r_ix1i ix22 rfl (by first | rfl | assumption) rfl (by first | rfl | assumption) (by omega)) hS ?_
      refine Sx.dt (i := 6) rfl (by kernel_rfl) (by kernel_rfl) (by kernel_rfl) (by kernel_rfl) (fun _ _ _ _ h => h) rfl (wnt0 rfl) (fun wv h2 => r_ix1i ix22 rfl (by first | rfl | assumption) rfl (by first | rfl | assumption) (by omega)) hS ?_
      refine Sx.dt (i := 3) rfl (by kernel_rfl) (by kernel_rfl) (by kernel_rfl) (by kernel_rfl) (fun _ _ _ _ h => h) rfl (wnt0 rfl) (fun wv h2 => r_ld0 ty3 rfl ((d_m1.rel h2 (show ¬ (False) from id)).seg) rfl) hS ?_
      refine Sx.dt (i := 7) rfl (by kernel_rfl) (by kernel_rfl) (by kernel_rfl) (by kernel_rfl) (fun _ _ _ _ h => h) rfl (wnt0 rfl) (fun wv h2 => r_ld0 ty3 rfl ((d_m2.rel h2 (show ¬ (False) from id)).seg) rfl) hS ?_
      refine Sx.dt (i := 8) rfl (by kernel_rfl) (by kernel_rfl) (by kernel_rfl) (by kernel_rfl) (fun _ _ _ _ h => h) rfl (wnt0 rfl) (fun wv h2 => r_ne rfl rfl) hS ?_
      refine Sx.dz (by kernel_rfl) ?_
      clear hS d_m1 d_m2
      refine Sx.nT ?_
      by_cases hy : e0 l k ≠ e0 m k
      · refine Sx.ct rfl (decide_eq_true hy) ?_
        refine Sx.seq ?_
        refine Sx.reg ?_
        refine Sx.sv (r_as rfl) rfl (wnt0 rfl) ?_
        refine wnil ?_
        refine Sx.nT ?_
        refine wp_ret ?_
        refine Sx.rB ?_
        refine Sx.rT ?_
        refine Sx.rT ?_
        refine Sx.rB ?_
        refine Sx.rT ?_
        refine Sx.ret1 Try.results14 rfl ⟨?_, E⟩
        rw [decide_eq_false (fun e => hy (by rw [e]))]
      · refine Sx.cf rfl (decide_eq_false hy) ?_
        refine wp_skip ?_
        refine Sx.nB ?_
        refine Sx.nT ?_
        refine Sx.reg ?_
        refine Sx.sv (r_add rfl rfl (by omega) (by omega)) rfl (wnt0 rfl) ?_
        refine Sx.sv (r_mv rfl) rfl (wnt0 rfl) ?_
        refine wnil ?_
        refine Sx.nT ?_
        exact Sx.lpe (k + 1) ⟨rfl, rfl, rfl, rfl, trivial⟩ ⟨hlt, fun j hj => (by by_cases e : j = k; exact e ▸ (Classical.not_not.1 hy); exact heq j (by omega)), E⟩ (show _ - (k + 1) < _ - k by omega)
    · refine Sx.cf rfl (decide_eq_false (by omega)) ?_
      refine wp_exit ?_
      refine Sx.eT ?_
      refine Sx.eT ?_
      refine Sx.eB ?_
      refine Sx.nT ?_
      refine Sx.seq ?_
      refine Sx.reg ?_
      refine Sx.sv (r_as rfl) rfl (wnt0 rfl) ?_
      refine wnil ?_
      refine Sx.nT ?_
      refine wp_ret ?_
      refine Sx.ret1 Try.results14 rfl ⟨?_, E⟩
      rw [decide_eq_true]
      exact e0_ext (by omega) (fun j hj => heq j (by omega))
end Go.Proofs.Ytahggnlmabdbbaa.Di
