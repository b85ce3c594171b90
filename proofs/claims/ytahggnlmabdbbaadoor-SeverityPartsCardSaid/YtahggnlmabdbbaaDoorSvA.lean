import Derived.Test.YtahggnlmabdbbaaDoorSxR
namespace Go.Proofs.YtahggnlmabdbbaaDoor.Di
open Go.RowKit Go.Shelf Go.Maps
open Go.Proofs.YtahggnlmabdbbaaDoor.Tp
open Go.Proofs.YtahggnlmabdbbaaDoor.Sx
set_option linter.unusedVariables false
/-- The least scores of the levels. -/
def tb : Nat → Int
  | 0 => 1
  | 1 => 100
  | 2 => 1000
  | _ => 10000
def lvN (s : Int) : Nat → Int
  | 0 => 0
  | k + 1 => if tb k ≤ s then lvN s k + 1 else lvN s k
def lvl (s : Int) : Int := lvN s 4
theorem lvN_b (s : Int) : ∀ k, 0 ≤ lvN s k ∧ lvN s k ≤ k
  | 0 => by simp [lvN]
  | k + 1 => by
    have := lvN_b s k
    rw [lvN]
    split <;> omega
theorem lvN_up {s t : Int} (h : s ≤ t) : ∀ k, lvN s k ≤ lvN t k
  | 0 => Int.le_refl _
  | k + 1 => by
    have := lvN_up h k
    rw [lvN, lvN]
    split <;> split <;> omega
theorem lvl_up {s t : Int} (h : s ≤ t) : lvl s ≤ lvl t := lvN_up h 4
theorem lvl_b (s : Int) : 0 ≤ lvl s ∧ lvl s ≤ 4 := lvN_b s 4
def TB : List Value := [.int .i64 1, .int .i64 100, .int .i64 1000, .int .i64 10000]
theorem run_tb {w : World} {i : Nat} (hi : i < 4) : (Instr.index 57 (.agg (List.toArray [.int .i64 1, .int .i64 100, .int .i64 1000, .int .i64 10000])) (.int .i64 (i : Int))).run Tryd.prog w = .ok (.int .i64 (tb i)) w := by
  rcases (show i = 0 ∨ i = 1 ∨ i = 2 ∨ i = 3 by omega) with rfl | rfl | rfl | rfl <;> kernel_rfl
section
variable {n : Nat} {fr : Fr n} {al : List (Nat × Value)} {dst : Option Nat} {ty : TypeId} {pos : String} {af : Array Edge} {g : Option (Nat × Bool)} {w : World}
theorem r_tb {x y : Operand} {i : Nat} (hx : eo n al x = some (.agg (List.toArray [.int .i64 1, .int .i64 100, .int .i64 1000, .int .i64 10000]))) (hy : eo n al y = some (.int .i64 (i : Int))) (hi : i < 4) :
    (execOp (Fa fr al).eval ⟨dst, .index 57 x y, ty, pos, af, g⟩).run Tryd.prog w = .ok (.value (.int .i64 (tb i))) w := by
  simp only [execOp, eo_eval hx, eo_eval hy]
  simp only [Sem.run_bind, Sem.run_pure, run_tb hi, Result.andThen_ok]
variable {P : Program}
theorem ret_c1 {fn : Func} {R : Ending → World → Prop} {p u : Nat} {t s : TypeId} {b : Nat} {l : List Value} {z : Value} (hr : fn.results = #[.cell p t, .tmp u]) (hv : lk n al p = some (.pointer (some ⟨b, 0, none⟩))) (ht : TyR P t s) (hl : l.length = s) (hm : w.rangeAt b 0 l) (hu : lk n al u = some z) (h : R (.returned (.tuple #[.agg l.toArray, z])) w) : bodyPost P fn R .ret (Fa fr al) w := by
  obtain ⟨d, h1, h2, h3⟩ := ht
  refine ⟨rfl, .tuple #[.agg l.toArray, z], ?_, h⟩
  have := run_loadVar_mid (P := P) w b 0 t l d hm h1 h2 (by rw [h3, hl])
  simp only [results, hr]
  simp [Fa, lk_pa fr al p _ hv, lk_pa fr al u _ hu, asAddr, this]
end
theorem bd57 (x0 x1 x2 x3 : Int) : Tryd.prog.built 57 [(0, .int .i64 x0), (1, .int .i64 x1), (2, .int .i64 x2), (3, .int .i64 x3)] = some (List.toArray [.int .i64 x0, .int .i64 x1, .int .i64 x2, .int .i64 x3]) := by kernel_rfl
set_option maxRecDepth 100000 in
set_option maxHeartbeats 4000000 in
theorem level_any (s : Int) (w : World) (hT : Me w 0 0 TB) : Calls Tryd.prog 12 #[.int .i64 s] w fun e w' => e = .returned (.int .i64 (lvl s)) ∧ w = w' := by
  refine Sx.enter Tryd.func12 rfl Tryd.ntmps12 rfl (fun fr => ?_)
  refine Sx.seq ?_
  refine Sx.reg ?_
  refine Sx.sv (r_as rfl) rfl (wnt0 rfl) ?_
  refine wnil ?_
  refine Sx.nT ?_
  refine Sx.seq ?_
  refine Sx.reg ?_
  refine Sx.sv (r_as rfl) rfl (wnt0 rfl) ?_
  refine wnil ?_
  refine Sx.nT ?_
  refine Sx.seq ?_
  refine Sx.seq ?_
  refine Sx.reg ?_
  refine Sx.sv (r_ldr ty57 rfl (hT.seg) rfl) rfl (wnt0 rfl) ?_
  refine Sx.sv (r_mv rfl) rfl (wnt0 rfl) ?_
  refine wnil ?_
  refine Sx.nT ?_
  refine Sx.blk ?_
  refine Sx.lp (Nat) (fun i => [(7, .int .i64 (i : Int)), (6, .agg (List.toArray [.int .i64 1, .int .i64 100, .int .i64 1000, .int .i64 10000])), (3, .int .i64 (lvN s i)), (0, .int .i64 s)]) (fun i wr => i ≤ 4 ∧ w = wr) (fun i => 4 - i) 0 ⟨rfl, rfl, rfl, rfl, trivial⟩ ⟨Nat.zero_le _, rfl⟩ ?_
  rintro i fr w1 ⟨hi, rfl⟩
  show Code.wp _ _ _ (Fa fr [(7, .int .i64 (i : Int)), (6, .agg (List.toArray [.int .i64 1, .int .i64 100, .int .i64 1000, .int .i64 10000])), (3, .int .i64 (lvN s i)), (0, .int .i64 s)]) _
  refine Sx.seq ?_
  refine Sx.reg ?_
  refine Sx.sv (r_lt rfl rfl) rfl (wnt0 rfl) ?_
  refine wnil ?_
  refine Sx.nT ?_
  refine Sx.seq ?_
  by_cases hlt : i < 4
  · refine Sx.ct rfl (decide_eq_true (by omega)) ?_
    have hb := lvN_b s i
    refine wp_skip ?_
    refine Sx.nT ?_
    refine Sx.seq ?_
    refine Sx.blk ?_
    refine Sx.seq ?_
    refine Sx.reg ?_
    refine Sx.sv (r_tb rfl rfl hlt) rfl (wnt0 rfl) ?_
    refine Sx.sv (r_as rfl) rfl (wnt0 rfl) ?_
    refine wnil ?_
    refine Sx.nT ?_
    refine Sx.seq ?_
    refine Sx.reg ?_
    refine Sx.sv (r_mv rfl) rfl (wnt0 rfl) ?_
    refine Sx.sv (r_mv rfl) rfl (wnt0 rfl) ?_
    refine Sx.sv (r_ge rfl rfl) rfl (wnt0 rfl) ?_
    refine wnil ?_
    refine Sx.nT ?_
    by_cases hle : tb i ≤ s
    · refine Sx.ct rfl (decide_eq_true hle) ?_
      refine Sx.reg ?_
      refine Sx.sv (r_mv rfl) rfl (wnt0 rfl) ?_
      refine Sx.sv (r_add rfl rfl (by omega) (by omega)) rfl (wnt0 rfl) ?_
      refine Sx.sv (r_as rfl) rfl (wnt0 rfl) ?_
      refine wnil ?_
      refine Sx.nB ?_
      refine Sx.nT ?_
      refine Sx.reg ?_
      refine Sx.sv (r_add rfl rfl (by omega) (by omega)) rfl (wnt0 rfl) ?_
      refine Sx.sv (r_mv rfl) rfl (wnt0 rfl) ?_
      refine wnil ?_
      refine Sx.nT ?_
      have hs : lvN s (i + 1) = lvN s i + 1 := by rw [lvN, if_pos hle]
      exact Sx.lpe (i + 1) ⟨rfl, rfl, congrArg (fun q => some (Value.int .i64 q)) hs.symm, rfl, trivial⟩ ⟨hlt, rfl⟩ (show 4 - (i + 1) < 4 - i by omega)
    · refine Sx.cf rfl (decide_eq_false hle) ?_
      refine wp_skip ?_
      refine Sx.nB ?_
      refine Sx.nT ?_
      refine Sx.reg ?_
      refine Sx.sv (r_add rfl rfl (by omega) (by omega)) rfl (wnt0 rfl) ?_
      refine Sx.sv (r_mv rfl) rfl (wnt0 rfl) ?_
      refine wnil ?_
      refine Sx.nT ?_
      have hs : lvN s (i + 1) = lvN s i := by rw [lvN, if_neg hle]
      exact Sx.lpe (i + 1) ⟨rfl, rfl, congrArg (fun q => some (Value.int .i64 q)) hs.symm, rfl, trivial⟩ ⟨hlt, rfl⟩ (show 4 - (i + 1) < 4 - i by omega)
  · refine Sx.cf rfl (decide_eq_false (by omega)) ?_
    refine wp_exit ?_
    refine Sx.eT ?_
    refine Sx.eT ?_
    refine Sx.eB ?_
    refine Sx.nT ?_
    refine Sx.seq ?_
    refine Sx.reg ?_
    refine Sx.sv (r_mv rfl) rfl (wnt0 rfl) ?_
    refine Sx.sv (r_as rfl) rfl (wnt0 rfl) ?_
    refine wnil ?_
    refine Sx.nT ?_
    refine wp_ret ?_
    obtain rfl : i = 4 := by omega
    exact Sx.ret1 Tryd.results12 rfl ⟨rfl, rfl⟩
end Go.Proofs.YtahggnlmabdbbaaDoor.Di
