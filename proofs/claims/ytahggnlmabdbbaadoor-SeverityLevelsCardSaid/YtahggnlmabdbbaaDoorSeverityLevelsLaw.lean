/-
  The Go function leakresponse/leakresponselaw31.SeverityLevels returns true for every input, and leaves what was there as it was; the bounds of the levels lie as the program's text lays them. Levels never fall with the score, and begin where they should.
-/
import Derived.Test.YtahggnlmabdbbaaDoorSvC
import Derived.Test.YtahggnlmabdbbaaDoorRows
import Derived.Test.YtahggnlmabdbbaaDoorCards
import Derived.Test.YtahggnlmabdbbaaDoorTie
import Derived.SevenTiedAt
namespace Go.Proofs.YtahggnlmabdbbaaDoor.severityLevels
open Go.ChangeShapes Go.WideShapes Go.ChangeAt Go.RowKit Go.Shelf Go.Maps
open Go.ChangeMaps (open_string shut_string)
open Go.Proofs.YtahggnlmabdbbaaDoor.Tp
open Go.Proofs.YtahggnlmabdbbaaDoor.Di
open Go.Proofs.YtahggnlmabdbbaaDoor.Sx
set_option linter.unusedVariables false

theorem tb_b (i : Nat) : 1 ≤ tb i ∧ tb i ≤ 10000 := by unfold tb; split <;> decide
theorem lvl_tb {i : Nat} (h : i < 4) : lvl (tb i) = 1 + (i : Int) ∧ lvl (tb i - 1) = (i : Int) := by
  rcases (show i = 0 ∨ i = 1 ∨ i = 2 ∨ i = 3 by omega) with rfl | rfl | rfl | rfl <;> decide
set_option maxRecDepth 100000 in
set_option maxHeartbeats 16000000 in
theorem walk (a0 : Int) (a1 : Int) (w0 : (Lit.int .i64 a0).wf = true) (w1 : (Lit.int .i64 a1).wf = true) (w : World) (hT : Me w 0 0 TB) :
    Calls Tryd.prog 7 #[.int .i64 a0, .int .i64 a1] w fun e w' => e = .returned (.bool true) ∧ Below w.heap.size w w' := by
  have E : Rel (fun x => w.heap.size ≤ x) w w := Rel.refl _ _
  refine Sx.enter Tryd.func7 rfl Tryd.ntmps7 rfl (fun fr => ?_)
  refine Sx.seq ?_
  refine Sx.reg ?_
  refine Sx.sv (r_as rfl) rfl (wnt0 rfl) ?_
  refine wnil ?_
  refine Sx.nT ?_
  refine Sx.seq ?_
  refine Sx.seq ?_
  refine Sx.reg ?_
  refine Sx.sv (r_mv rfl) rfl (wnt0 rfl) ?_
  refine Sx.sv (r_mv rfl) rfl (wnt0 rfl) ?_
  refine Sx.sv (r_gt rfl rfl) rfl (wnt0 rfl) ?_
  refine wnil ?_
  refine Sx.nT ?_
  by_cases hab : a1 < a0
  · refine Sx.ct rfl (decide_eq_true hab) ?_
    refine Sx.reg ?_
    refine Sx.sv (r_mv rfl) rfl (wnt0 rfl) ?_
    refine Sx.sv (r_mv rfl) rfl (wnt0 rfl) ?_
    refine Sx.sv (r_as rfl) rfl (wnt0 rfl) ?_
    refine Sx.sv (r_as rfl) rfl (wnt0 rfl) ?_
    refine wnil ?_
    refine Sx.nT ?_
    refine Sx.seq ?_
    refine Sx.seq ?_
    refine Sx.reg ?_
    refine Sx.sv (r_mv rfl) rfl (wnt0 rfl) ?_
    have hup := lvl_up (show a1 ≤ a0 by omega)
    have hba := lvl_b a1
    have hbb := lvl_b a0
    refine Sx.sc (r_call en12 rfl) rfl (wnt0 rfl) (level_any _ _ hT) ?_
    rintro e w1 ⟨rfl, rfl⟩
    refine ⟨_, rfl, ?_⟩
    refine Sx.sv (r_mv rfl) rfl (wnt0 rfl) ?_
    refine Sx.sc (r_call en12 rfl) rfl (wnt0 rfl) (level_any _ _ hT) ?_
    rintro e w2 ⟨rfl, rfl⟩
    refine ⟨_, rfl, ?_⟩
    refine Sx.sv (r_gt rfl rfl) rfl (wnt0 rfl) ?_
    refine Sx.sv (r_mv rfl) rfl (wnt0 rfl) ?_
    refine Sx.sv (r_mv rfl) rfl (wnt1 (dj := 17) (b0 := false) rfl rfl rfl rfl (decide_eq_false (by omega)) rfl) ?_
    refine Sx.sc (r_call en12 rfl) rfl (wnt1 (dj := 17) (b0 := false) rfl rfl rfl rfl (decide_eq_false (by omega)) rfl) (level_any _ _ hT) ?_
    rintro e w3 ⟨rfl, rfl⟩
    refine ⟨_, rfl, ?_⟩
    refine Sx.sv (r_lt rfl rfl) rfl (wnt1 (dj := 17) (b0 := false) rfl rfl rfl rfl (decide_eq_false (by omega)) rfl) ?_
    refine Sx.sv (r_pkF rfl (decide_eq_false (by omega)) rfl) rfl (wnt0 rfl) ?_
    refine Sx.sv (r_mv rfl) rfl (wnt0 rfl) ?_
    refine Sx.sv (r_mv rfl) rfl (wnt1 (dj := 22) (b0 := false) rfl rfl rfl rfl (decide_eq_false (by omega)) rfl) ?_
    refine Sx.sc (r_call en12 rfl) rfl (wnt1 (dj := 22) (b0 := false) rfl rfl rfl rfl (decide_eq_false (by omega)) rfl) (level_any _ _ hT) ?_
    rintro e w4 ⟨rfl, rfl⟩
    refine ⟨_, rfl, ?_⟩
    refine Sx.sv (r_gt rfl rfl) rfl (wnt1 (dj := 22) (b0 := false) rfl rfl rfl rfl (decide_eq_false (by omega)) rfl) ?_
    refine Sx.sv (r_pkF rfl (decide_eq_false (by omega)) rfl) rfl (wnt0 rfl) ?_
    refine wnil ?_
    refine Sx.nT ?_
    refine Sx.cf rfl (decide_eq_false (by omega)) ?_
    refine wp_skip ?_
    refine Sx.nT ?_
    refine Sx.seq ?_
    refine Sx.seq ?_
    refine Sx.reg ?_
    refine Sx.sv (r_bld rfl (bd57 _ _ _ _)) rfl (wnt0 rfl) ?_
    refine Sx.sv (r_mv rfl) rfl (wnt0 rfl) ?_
    refine wnil ?_
    refine Sx.nT ?_
    refine Sx.blk ?_
    refine Sx.lp (Nat) (fun i => [(28, .int .i64 (i : Int)), (27, .agg (List.toArray [.int .i64 1, .int .i64 100, .int .i64 1000, .int .i64 10000]))]) (fun i wr => i ≤ 4 ∧ w = wr) (fun i => 4 - i) 0 ⟨rfl, rfl, trivial⟩ ⟨Nat.zero_le _, rfl⟩ ?_
    rintro i fr w5 ⟨hi, rfl⟩
    show Code.wp _ _ _ (Fa fr [(28, .int .i64 (i : Int)), (27, .agg (List.toArray [.int .i64 1, .int .i64 100, .int .i64 1000, .int .i64 10000]))]) _
    refine Sx.seq ?_
    refine Sx.reg ?_
    refine Sx.sv (r_lt rfl rfl) rfl (wnt0 rfl) ?_
    refine wnil ?_
    refine Sx.nT ?_
    refine Sx.seq ?_
    by_cases hlt : i < 4
    · refine Sx.ct rfl (decide_eq_true (by omega)) ?_
      have hb := tb_b i
      refine wp_skip ?_
      refine Sx.nT ?_
      refine Sx.seq ?_
      refine Sx.blk ?_
      refine Sx.seq ?_
      refine Sx.reg ?_
      refine Sx.sv (r_mv rfl) rfl (wnt0 rfl) ?_
      refine Sx.sv (r_tb rfl rfl hlt) rfl (wnt0 rfl) ?_
      refine Sx.sv (r_as rfl) rfl (wnt0 rfl) ?_
      refine Sx.sv (r_as rfl) rfl (wnt0 rfl) ?_
      refine wnil ?_
      refine Sx.nT ?_
      refine Sx.seq ?_
      refine Sx.reg ?_
      refine Sx.sv (r_mv rfl) rfl (wnt0 rfl) ?_
      refine Sx.sc (r_call en12 rfl) rfl (wnt0 rfl) (level_any _ _ hT) ?_
      rintro e w6 ⟨rfl, rfl⟩
      refine ⟨_, rfl, ?_⟩
      refine Sx.sv (r_mv rfl) rfl (wnt0 rfl) ?_
      refine Sx.sv (r_add rfl rfl (by omega) (by omega)) rfl (wnt0 rfl) ?_
      refine Sx.sv (r_ne rfl rfl) rfl (wnt0 rfl) ?_
      refine Sx.sv (r_mv rfl) rfl (wnt0 rfl) ?_
      refine Sx.sv (r_mv rfl) rfl (wnt1 (dj := 37) (b0 := false) rfl rfl rfl rfl (decide_eq_false (fun h => h (lvl_tb hlt).1)) rfl) ?_
      refine Sx.sv (r_sub rfl rfl (by omega) (by omega)) rfl (wnt1 (dj := 37) (b0 := false) rfl rfl rfl rfl (decide_eq_false (fun h => h (lvl_tb hlt).1)) rfl) ?_
      refine Sx.sc (r_call en12 rfl) rfl (wnt1 (dj := 37) (b0 := false) rfl rfl rfl rfl (decide_eq_false (fun h => h (lvl_tb hlt).1)) rfl) (level_any _ _ hT) ?_
      rintro e w7 ⟨rfl, rfl⟩
      refine ⟨_, rfl, ?_⟩
      refine Sx.sv (r_mv rfl) rfl (wnt1 (dj := 37) (b0 := false) rfl rfl rfl rfl (decide_eq_false (fun h => h (lvl_tb hlt).1)) rfl) ?_
      refine Sx.sv (r_ne rfl rfl) rfl (wnt1 (dj := 37) (b0 := false) rfl rfl rfl rfl (decide_eq_false (fun h => h (lvl_tb hlt).1)) rfl) ?_
      refine Sx.sv (r_pkF rfl (decide_eq_false (fun h => h (lvl_tb hlt).1)) rfl) rfl (wnt0 rfl) ?_
      refine wnil ?_
      refine Sx.nT ?_
      refine Sx.cf rfl (decide_eq_false (fun h => h (lvl_tb hlt).2)) ?_
      refine wp_skip ?_
      refine Sx.nB ?_
      refine Sx.nT ?_
      refine Sx.reg ?_
      refine Sx.sv (r_add rfl rfl (by omega) (by omega)) rfl (wnt0 rfl) ?_
      refine Sx.sv (r_mv rfl) rfl (wnt0 rfl) ?_
      refine wnil ?_
      refine Sx.nT ?_
      exact Sx.lpe (i + 1) ⟨rfl, rfl, trivial⟩ ⟨hlt, rfl⟩ (show 4 - (i + 1) < 4 - i by omega)
    · refine Sx.cf rfl (decide_eq_false (by omega)) ?_
      refine wp_exit ?_
      refine Sx.eT ?_
      refine Sx.eT ?_
      refine Sx.eB ?_
      refine Sx.nT ?_
      refine Sx.seq ?_
      refine Sx.reg ?_
      refine Sx.sc (r_call en8 rfl) rfl (wnt0 rfl) (awake_any _ hT) ?_
      rintro e w8 ⟨rfl, hb8⟩
      refine ⟨_, rfl, ?_⟩
      have r8 := Rel.of0 hb8
      replace hT := hT.nw r8
      replace E := E.then r8 (fun _ _ h => h.elim)
      refine Sx.sv (r_as rfl) rfl (wnt0 rfl) ?_
      refine wnil ?_
      refine Sx.nT ?_
      refine wp_ret ?_
      exact Sx.ret1 Tryd.results7 rfl ⟨rfl, E.toB0⟩
  · refine Sx.cf rfl (decide_eq_false hab) ?_
    refine wp_skip ?_
    refine Sx.nT ?_
    refine Sx.seq ?_
    refine Sx.seq ?_
    refine Sx.reg ?_
    refine Sx.sv (r_mv rfl) rfl (wnt0 rfl) ?_
    have hup := lvl_up (show a0 ≤ a1 by omega)
    have hba := lvl_b a0
    have hbb := lvl_b a1
    refine Sx.sc (r_call en12 rfl) rfl (wnt0 rfl) (level_any _ _ hT) ?_
    rintro e w9 ⟨rfl, rfl⟩
    refine ⟨_, rfl, ?_⟩
    refine Sx.sv (r_mv rfl) rfl (wnt0 rfl) ?_
    refine Sx.sc (r_call en12 rfl) rfl (wnt0 rfl) (level_any _ _ hT) ?_
    rintro e w10 ⟨rfl, rfl⟩
    refine ⟨_, rfl, ?_⟩
    refine Sx.sv (r_gt rfl rfl) rfl (wnt0 rfl) ?_
    refine Sx.sv (r_mv rfl) rfl (wnt0 rfl) ?_
    refine Sx.sv (r_mv rfl) rfl (wnt1 (dj := 17) (b0 := false) rfl rfl rfl rfl (decide_eq_false (by omega)) rfl) ?_
    refine Sx.sc (r_call en12 rfl) rfl (wnt1 (dj := 17) (b0 := false) rfl rfl rfl rfl (decide_eq_false (by omega)) rfl) (level_any _ _ hT) ?_
    rintro e w11 ⟨rfl, rfl⟩
    refine ⟨_, rfl, ?_⟩
    refine Sx.sv (r_lt rfl rfl) rfl (wnt1 (dj := 17) (b0 := false) rfl rfl rfl rfl (decide_eq_false (by omega)) rfl) ?_
    refine Sx.sv (r_pkF rfl (decide_eq_false (by omega)) rfl) rfl (wnt0 rfl) ?_
    refine Sx.sv (r_mv rfl) rfl (wnt0 rfl) ?_
    refine Sx.sv (r_mv rfl) rfl (wnt1 (dj := 22) (b0 := false) rfl rfl rfl rfl (decide_eq_false (by omega)) rfl) ?_
    refine Sx.sc (r_call en12 rfl) rfl (wnt1 (dj := 22) (b0 := false) rfl rfl rfl rfl (decide_eq_false (by omega)) rfl) (level_any _ _ hT) ?_
    rintro e w12 ⟨rfl, rfl⟩
    refine ⟨_, rfl, ?_⟩
    refine Sx.sv (r_gt rfl rfl) rfl (wnt1 (dj := 22) (b0 := false) rfl rfl rfl rfl (decide_eq_false (by omega)) rfl) ?_
    refine Sx.sv (r_pkF rfl (decide_eq_false (by omega)) rfl) rfl (wnt0 rfl) ?_
    refine wnil ?_
    refine Sx.nT ?_
    refine Sx.cf rfl (decide_eq_false (by omega)) ?_
    refine wp_skip ?_
    refine Sx.nT ?_
    refine Sx.seq ?_
    refine Sx.seq ?_
    refine Sx.reg ?_
    refine Sx.sv (r_bld rfl (bd57 _ _ _ _)) rfl (wnt0 rfl) ?_
    refine Sx.sv (r_mv rfl) rfl (wnt0 rfl) ?_
    refine wnil ?_
    refine Sx.nT ?_
    refine Sx.blk ?_
    refine Sx.lp (Nat) (fun i => [(28, .int .i64 (i : Int)), (27, .agg (List.toArray [.int .i64 1, .int .i64 100, .int .i64 1000, .int .i64 10000]))]) (fun i wr => i ≤ 4 ∧ w = wr) (fun i => 4 - i) 0 ⟨rfl, rfl, trivial⟩ ⟨Nat.zero_le _, rfl⟩ ?_
    rintro i fr w13 ⟨hi, rfl⟩
    show Code.wp _ _ _ (Fa fr [(28, .int .i64 (i : Int)), (27, .agg (List.toArray [.int .i64 1, .int .i64 100, .int .i64 1000, .int .i64 10000]))]) _
    refine Sx.seq ?_
    refine Sx.reg ?_
    refine Sx.sv (r_lt rfl rfl) rfl (wnt0 rfl) ?_
    refine wnil ?_
    refine Sx.nT ?_
    refine Sx.seq ?_
    by_cases hlt : i < 4
    · refine Sx.ct rfl (decide_eq_true (by omega)) ?_
      have hb := tb_b i
      refine wp_skip ?_
      refine Sx.nT ?_
      refine Sx.seq ?_
      refine Sx.blk ?_
      refine Sx.seq ?_
      refine Sx.reg ?_
      refine Sx.sv (r_mv rfl) rfl (wnt0 rfl) ?_
      refine Sx.sv (r_tb rfl rfl hlt) rfl (wnt0 rfl) ?_
      refine Sx.sv (r_as rfl) rfl (wnt0 rfl) ?_
      refine Sx.sv (r_as rfl) rfl (wnt0 rfl) ?_
      refine wnil ?_
      refine Sx.nT ?_
      refine Sx.seq ?_
      refine Sx.reg ?_
      refine Sx.sv (r_mv rfl) rfl (wnt0 rfl) ?_
      refine Sx.sc (r_call en12 rfl) rfl (wnt0 rfl) (level_any _ _ hT) ?_
      rintro e w14 ⟨rfl, rfl⟩
      refine ⟨_, rfl, ?_⟩
      refine Sx.sv (r_mv rfl) rfl (wnt0 rfl) ?_
      refine Sx.sv (r_add rfl rfl (by omega) (by omega)) rfl (wnt0 rfl) ?_
      refine Sx.sv (r_ne rfl rfl) rfl (wnt0 rfl) ?_
      refine Sx.sv (r_mv rfl) rfl (wnt0 rfl) ?_
      refine Sx.sv (r_mv rfl) rfl (wnt1 (dj := 37) (b0 := false) rfl rfl rfl rfl (decide_eq_false (fun h => h (lvl_tb hlt).1)) rfl) ?_
      refine Sx.sv (r_sub rfl rfl (by omega) (by omega)) rfl (wnt1 (dj := 37) (b0 := false) rfl rfl rfl rfl (decide_eq_false (fun h => h (lvl_tb hlt).1)) rfl) ?_
      refine Sx.sc (r_call en12 rfl) rfl (wnt1 (dj := 37) (b0 := false) rfl rfl rfl rfl (decide_eq_false (fun h => h (lvl_tb hlt).1)) rfl) (level_any _ _ hT) ?_
      rintro e w15 ⟨rfl, rfl⟩
      refine ⟨_, rfl, ?_⟩
      refine Sx.sv (r_mv rfl) rfl (wnt1 (dj := 37) (b0 := false) rfl rfl rfl rfl (decide_eq_false (fun h => h (lvl_tb hlt).1)) rfl) ?_
      refine Sx.sv (r_ne rfl rfl) rfl (wnt1 (dj := 37) (b0 := false) rfl rfl rfl rfl (decide_eq_false (fun h => h (lvl_tb hlt).1)) rfl) ?_
      refine Sx.sv (r_pkF rfl (decide_eq_false (fun h => h (lvl_tb hlt).1)) rfl) rfl (wnt0 rfl) ?_
      refine wnil ?_
      refine Sx.nT ?_
      refine Sx.cf rfl (decide_eq_false (fun h => h (lvl_tb hlt).2)) ?_
      refine wp_skip ?_
      refine Sx.nB ?_
      refine Sx.nT ?_
      refine Sx.reg ?_
      refine Sx.sv (r_add rfl rfl (by omega) (by omega)) rfl (wnt0 rfl) ?_
      refine Sx.sv (r_mv rfl) rfl (wnt0 rfl) ?_
      refine wnil ?_
      refine Sx.nT ?_
      exact Sx.lpe (i + 1) ⟨rfl, rfl, trivial⟩ ⟨hlt, rfl⟩ (show 4 - (i + 1) < 4 - i by omega)
    · refine Sx.cf rfl (decide_eq_false (by omega)) ?_
      refine wp_exit ?_
      refine Sx.eT ?_
      refine Sx.eT ?_
      refine Sx.eB ?_
      refine Sx.nT ?_
      refine Sx.seq ?_
      refine Sx.reg ?_
      refine Sx.sc (r_call en8 rfl) rfl (wnt0 rfl) (awake_any _ hT) ?_
      rintro e w16 ⟨rfl, hb16⟩
      refine ⟨_, rfl, ?_⟩
      have r16 := Rel.of0 hb16
      replace hT := hT.nw r16
      replace E := E.then r16 (fun _ _ h => h.elim)
      refine Sx.sv (r_as rfl) rfl (wnt0 rfl) ?_
      refine wnil ?_
      refine Sx.nT ?_
      refine wp_ret ?_
      exact Sx.ret1 Tryd.results7 rfl ⟨rfl, E.toB0⟩

/-! ### THE ROW's STEP: WRITTEN OUT: LEAVE IT -/
set_option maxRecDepth 100000 in
theorem lifted (os : Os) (started : os.Started) (H : Type) (enc : TypeId × Value → H) :
    ReturnsInHanded {} Tryd.checked os 7 .any (fun w args => (Rows.severityLevelsSpec.pre enc Tryd.prog Tryd.f7 [] false w args ∧ laidMetH Tryd.prog laidL w) ∧ sizedMet enc Tryd.prog Tryd.f7 (OpenSpec.ofChange Rows.severityLevelsSpec) false w args) (Rows.severityLevelsSpec.post enc Tryd.prog Tryd.f7 false true false false) := by
  refine returnsInHanded_of_change_and (C := Tryd.checked) (X := fun w _ => laidMetH Tryd.prog laidL w) (fun _ _ _ hh h => h.of_heap hh) own started (by kernel_rfl) Tryd.func7
    (ChangeSpec.witness_shaped (enc := enc) (C := Tryd.checked) (os := os) (X := fun w _ => laidMetH Tryd.prog laidL w) false (World.doorLaid Tryd.prog 400 os) #[.int .i64 0, .int .i64 0] 8 rfl (World.shaped_of_RefB (by kernel_rfl) (by kernel_rfl)) (by kernel_rfl) (by kernel_rfl) (by kernel_rfl) (door_met os _)) ?_
  intro W base args ds gs before hval0 hW _ _ hL _
  have hval : ∀ (j : Nat) t v, Tryd.f7.params[j]? = some t → args[j]? = some v → Value.okWide Tryd.prog W .any base t v := hval0
  have hW' := hW
  obtain ⟨p, q, hA0, hV, rfl, hfz, hnd⟩ := hW
  have hA : DataW.TrodAll enc Tryd.prog W 0 (fun _ => true) true Tryd.f7.params.toList args.toList ds p := hA0
  rw [Tryd.params7] at hA hval
  obtain ⟨v0, vs0, d0, ds0, p0, q0, hargs, rfl, rfl, h0, r0⟩ := trodAll_cons hA
  obtain ⟨v1, vs1, d1, ds1, p1, q1, rfl, rfl, rfl, h1, r1⟩ := trodAll_cons r0
  obtain ⟨rfl, rfl, rfl⟩ := trodAll_nil r1
  obtain rfl : args = #[v0, v1] := by cases args; simp_all
  obtain ⟨rfl, rfl⟩ := trodVars_none hV
  obtain ⟨a0, rfl, rfl, rfl, w0⟩ := open_int Tryd.underlying3 (hval 0 3 v0 rfl rfl) h0
  obtain ⟨a1, rfl, rfl, rfl, w1⟩ := open_int Tryd.underlying3 (hval 1 3 v1 rfl rfl) h1
  clear hA0 hval0
  refine (walk a0 a1 w0 w1 W (tb_of hL)).mono fun e W' ⟨he, bel⟩ => ?_
  subst he
  exact ⟨_, rfl, _, _, _, [], _, [], hW', trodAll_mk1 (shut_bool Tryd.underlying4 _), (trodAll_cons_mk (shut_int Tryd.underlying3 w0) (trodAll_cons_mk (shut_int Tryd.underlying3 w1) trodAll_mk0)), rfl, bel.frame _, fun h => by cases h⟩

theorem over : Rows.severityLevelsRow.holds Tryd.pinned (OpenSpec.ofChange Rows.severityLevelsSpec) :=
  OpenClaim.holds_of_wide 7 Tryd.f7 rfl rfl rfl rfl rfl rfl rfl ⟨rfl, rfl, rfl, rfl, rfl⟩ rfl rfl rfl rfl rfl (by kernel_rfl) Tryd.func7 (by kernel_rfl)
    (of_decide_eq_true (by kernel_rfl)) (by unfold Func.isWrapper; first | (rw [if_pos (by decide +kernel)]; kernel_rfl) | (rw [if_neg (by decide +kernel)]; exact ⟨rfl, rfl⟩))
    (fun os started H enc _ => lifted os started H enc)

/-- ████ THE STATEMENT ████ -/
theorem proved : Rows.SeverityLevelsSaid :=
  over
#print axioms proved

/-- ████ THE TIED CARD ████ -/
theorem card : Rows.SeverityLevelsCardSaid :=
  Claim7.holds_tied_plain_at .later [] [.data] true (true, "ad4c5ca6948ed5b51ad57fd7c7d256d481063a317f6ff24e3cac6c2ca41a9d77") false
    proved (fun _ h => by cases h) (by kernel_rfl) (fun _ h => by cases h) severityLevels_row_tie rfl ⟨rfl, rfl⟩ (by kernel_rfl) rfl
    (fun f fn hf hfn => by
      obtain rfl : f = 7 := Option.some.inj ((show Tryd.prog.funcNamed "leakresponse/leakresponselaw31.SeverityLevels" = some 7 by kernel_rfl).symm.trans hf) |>.symm
      obtain rfl : fn = Tryd.f7 := (Option.some.inj (Tryd.func7.symm.trans hfn)).symm
      exact ⟨by kernel_rfl, fun j t ht => by
        rw [Tryd.params7] at ht
        have hm : t ∈ [3, 3] := by simpa using Array.mem_of_getElem? ht
        have hall : ([3, 3].all fun u => !Tryd.prog.wantsStandIn u) = true := by kernel_rfl
        exact (show Tryd.prog.wantsStandIn t = false by simpa using List.all_eq_true.1 hall t hm)⟩)
    (by kernel_rfl)
#print axioms card
end Go.Proofs.YtahggnlmabdbbaaDoor.severityLevels
