import Derived.Test.YtahggnlmabdbbaaSxP
import Derived.Test.YtahggnlmabdbbaaRtMem
namespace Go.Proofs.Ytahggnlmabdbbaa.Di
open Go.RowKit Go.Shelf
open Go.Proofs.Ytahggnlmabdbbaa.Tp
open Go.Proofs.Ytahggnlmabdbbaa.Sx
set_option linter.unusedVariables false
structure FewI (n q k : Nat) (l : List Int) : Prop where
  len : l.length ≤ k
  asc : l.Pairwise (· < ·)
  rng : ∀ x ∈ l, 0 ≤ x ∧ x < (k : Int)
theorem FewI.start (n q : Nat) : FewI n q 0 [] := ⟨by simp, by simp, by simp⟩
theorem FewI.no {n q k : Nat} {l : List Int} (h : FewI n q k l) : FewI n q (k + 1) l := ⟨by have := h.len; omega, h.asc, fun x hx => by have := h.rng x hx; omega⟩
theorem FewI.yes {n q k : Nat} {l : List Int} (h : FewI n q k l) : FewI n q (k + 1) (l ++ [(k : Int)]) :=
  ⟨by have := h.len; simp; omega, List.pairwise_append.2 ⟨h.asc, by simp, fun x hx y hy => by simp at hy; subst hy; exact (h.rng x hx).2⟩, fun x hx => by
    rcases List.mem_append.1 hx with hx | hx
    · have := h.rng x hx; omega
    · simp at hx; subst hx; omega⟩
def FewPost (T n q : Nat) (w : World) (e : Ending) (w' : World) : Prop := ∃ (l : List Int) (A : Option Addr) (c : Nat), e = .returned (.slice A l.length c) ∧ FewI n q n l ∧ w'.ownsRow w.heap.size 3 1 (.slice A l.length c) l.length (zv l) ∧ w.grownBy w' (some T) ∧ TapeOk w' T
set_option maxHeartbeats 4000000 in
theorem few_any (T n q : Nat) (w : World) (ht : TapeOk w T) (hT : T < w.heap.size) (hn : n ≤ 1000) (hq : 1 ≤ q ∧ q ≤ 1000) :
    Calls Try.prog 16 #[.pointer (some ⟨T, 0, none⟩), .int .i64 (n : Int), .int .i64 (q : Int)] w (FewPost T n q w) := by
  have HT := ht
  have E : Rel (fun x => x = T ∨ w.heap.size ≤ x) w w := Rel.refl _ _
  have lT : T < w.heap.size := hT
  refine Sx.enter Try.func16 rfl Try.ntmps16 rfl (fun fr => ?_)
  refine Sx.seq ?_
  refine Sx.reg ?_
  refine Sx.sv (r_as rfl) rfl (wnt0 rfl) ?_
  refine wnil ?_
  refine Sx.nT ?_
  refine Sx.seq ?_
  refine Sx.reg ?_
  refine Sx.sv (r_as rfl) rfl (wnt0 rfl) ?_
  refine wnil ?_
  refine Sx.nT ?_
  refine Sx.seq ?_
  refine Sx.seq ?_
  refine Sx.reg ?_
  refine Sx.sv (r_as rfl) rfl (wnt0 rfl) ?_
  refine wnil ?_
  refine Sx.nT ?_
  refine Sx.blk ?_
  refine Sx.lp (Nat × List Int × Option Addr × Nat) (fun ⟨k, l, A, c⟩ => [(8, .int .i64 (k : Int)), (7, .slice A l.length c), (0, .pointer (some ⟨T, 0, none⟩)), (1, .int .i64 (n : Int)), (2, .int .i64 (q : Int))]) (fun ⟨k, l, A, c⟩ wr => k ≤ n ∧ FewI n q k l ∧ wr.ownsRow w.heap.size 3 1 (.slice A l.length c) l.length (zv l) ∧ Rel (fun x => x = T ∨ w.heap.size ≤ x) w wr ∧ TapeOk wr T) (fun ⟨k, l, A, c⟩ => n - k) ⟨0, [], none, 0⟩ ⟨rfl, rfl, rfl, rfl, rfl, trivial⟩ ⟨Nat.zero_le _, .start n q, own_nil _ _ _ _, E, ht⟩ ?_
  rintro ⟨k, l, A, c⟩ fr w1 ⟨hk, hF, own, E, ht⟩
  show Code.wp _ _ _ (Fa fr [(8, .int .i64 (k : Int)), (7, .slice A l.length c), (0, .pointer (some ⟨T, 0, none⟩)), (1, .int .i64 (n : Int)), (2, .int .i64 (q : Int))]) _
  have hll := hF.len
  refine Sx.seq ?_
  refine Sx.seq ?_
  refine Sx.reg ?_
  refine Sx.sv (r_mv rfl) rfl (wnt0 rfl) ?_
  refine Sx.sv (r_mv rfl) rfl (wnt0 rfl) ?_
  refine Sx.sv (r_lt rfl rfl) rfl (wnt0 rfl) ?_
  refine wnil ?_
  refine Sx.nT ?_
  by_cases hlt : k < n
  · refine Sx.ct rfl (decide_eq_true (by omega)) ?_
    refine wp_skip ?_
    refine Sx.nT ?_
    refine Sx.seq ?_
    refine Sx.blk ?_
    refine Sx.seq ?_
    refine Sx.reg ?_
    refine Sx.sv (r_mv rfl) rfl (wnt0 rfl) ?_
    refine Sx.sv (r_mv rfl) rfl (wnt0 rfl) ?_
    have tq2_ht := tape_lt ht
    refine Sx.sc (r_call en9 rfl) rfl (wnt0 rfl) (next_any T q _ ht (by omega) (by omega)) ?_
    rintro e w2 ⟨z, z0, z1, rfl, hg, ht2⟩
    refine ⟨_, rfl, ?_⟩
    have r2 := Rel.ofT hg
    replace own := own_rel own r2 (fun q hq (e : q = T) => by subst e; first | exact own_not own (by assumption) (by decide) hq.symm | exact own_far own (by omega) hq.symm)
    replace E := E.then r2 (fun x hx (e : x = T) => show x = T ∨ w.heap.size ≤ x by omega)
    replace ht := ht2
    refine Sx.sv (r_mv rfl) rfl (wnt0 rfl) ?_
    refine Sx.sv (r_sub rfl rfl (by omega) (by omega)) rfl (wnt0 rfl) ?_
    refine Sx.sv (r_eq rfl rfl) rfl (wnt0 rfl) ?_
    refine wnil ?_
    refine Sx.nT ?_
    by_cases hz : z = (q : Int) - 1
    · refine Sx.ct rfl (decide_eq_true (by omega)) ?_
      refine Sx.reg ?_
      refine Sx.sv (r_mv rfl) rfl (wnt0 rfl) ?_
      refine Sx.sv (r_mv rfl) rfl (wnt0 rfl) ?_
      refine Sx.sy (y_bs rfl (bs22_1 _)) rfl (wnt0 rfl) ?_
      rintro _ w3 ⟨b3, rfl, n3, x3⟩
      have l3_ht : T < b3 := Nat.lt_of_lt_of_le (tape_lt ht) n3.ge
      have f3_own := fresh_own own n3.ge
      have g3 : w.heap.size ≤ b3 := Nat.le_trans E.size n3.ge
      replace ht := tape_rel ht n3.r (fun _ _ h => h)
      replace own := own_nw own n3.r
      replace E := E.then n3.r (fun _ _ h => h.elim)
      refine Sx.sy (y_app Try.underlying22 zi3 rfl (by decide) (by decide) rfl rfl own x3 rfl rfl (by omega) (by have := E.size; omega)) rfl (wnt0 rfl) ?_
      rintro _ w4 ⟨A4, c4, rfl, o4, r4, a4⟩
      replace ht := tape_rel ht r4 (fun b hb e => by have := own_ge own e; omega)
      replace x3 := x3.rel r4 (by first | assumption | exact own_not own x3 (by decide) | exact own_far own (by omega))
      replace E := E.then r4 (fun x hx e => show x = T ∨ w.heap.size ≤ x by have := own_ge own e; omega)
      replace own := o4; clear o4
      clear x3
      refine Sx.sv (r_as rfl) rfl (wnt0 rfl) ?_
      refine wnil ?_
      refine Sx.nB ?_
      refine Sx.nT ?_
      refine Sx.reg ?_
      refine Sx.sv (r_mv rfl) rfl (wnt0 rfl) ?_
      refine Sx.sv (r_add rfl rfl (by omega) (by omega)) rfl (wnt0 rfl) ?_
      refine Sx.sv (r_as rfl) rfl (wnt0 rfl) ?_
      refine wnil ?_
      refine Sx.nT ?_
      have hle : (l ++ [(k : Int)]).length = l.length + 1 := by simp
      exact Sx.lpe (⟨k + 1, l ++ [(k : Int)], A4, c4⟩) ⟨rfl, by rw [hle]; rfl, rfl, rfl, rfl, trivial⟩ ⟨by omega, hF.yes, by rw [zv_snoc, hle]; exact own, E, ht⟩ (show n - (k + 1) < n - k by omega)
    · refine Sx.cf rfl (decide_eq_false (by omega)) ?_
      refine wp_skip ?_
      refine Sx.nB ?_
      refine Sx.nT ?_
      refine Sx.reg ?_
      refine Sx.sv (r_mv rfl) rfl (wnt0 rfl) ?_
      refine Sx.sv (r_add rfl rfl (by omega) (by omega)) rfl (wnt0 rfl) ?_
      refine Sx.sv (r_as rfl) rfl (wnt0 rfl) ?_
      refine wnil ?_
      refine Sx.nT ?_
      exact Sx.lpe (⟨k + 1, l, A, c⟩) ⟨rfl, rfl, rfl, rfl, rfl, trivial⟩ ⟨by omega, hF.no, own, E, ht⟩ (show n - (k + 1) < n - k by omega)
  · refine Sx.cf rfl (decide_eq_false (by omega)) ?_
    refine wp_exit ?_
    refine Sx.eT ?_
    refine Sx.eT ?_
    refine Sx.eB ?_
    refine Sx.nT ?_
    refine Sx.seq ?_
    refine Sx.reg ?_
    refine Sx.sv (r_mv rfl) rfl (wnt0 rfl) ?_
    refine Sx.sv (r_as rfl) rfl (wnt0 rfl) ?_
    refine wnil ?_
    refine Sx.nT ?_
    refine wp_ret ?_
    obtain rfl : k = n := by omega
    refine Sx.ret1 Try.results16 rfl ?_
    exact ⟨l, A, c, rfl, hF, own, E.toT, ht⟩
end Go.Proofs.Ytahggnlmabdbbaa.Di
