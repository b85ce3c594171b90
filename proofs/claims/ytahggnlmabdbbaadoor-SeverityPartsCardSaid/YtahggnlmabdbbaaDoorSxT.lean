import Derived.Test.YtahggnlmabdbbaaDoorSxD
import Derived.Test.YtahggnlmabdbbaaDoorProg
namespace Go.Proofs.YtahggnlmabdbbaaDoor.Sx
open Go.RowKit Go.Shelf
set_option maxRecDepth 100000

theorem mx : Tryd.prog.follows .mixedOrders = true := by kernel_rfl
theorem ty3 : Ty1 Tryd.prog 3 := ty1_of Tryd.underlying3 rfl
theorem sz3 : (Tryd.prog.info? 3).map (·.size) = some 1 := by kernel_rfl
theorem ty4 : Ty1 Tryd.prog 4 := ty1_of Tryd.underlying4 rfl
theorem sz4 : (Tryd.prog.info? 4).map (·.size) = some 1 := by kernel_rfl
theorem ty22 : Ty1 Tryd.prog 22 := ty1_of Tryd.underlying22 rfl
theorem sz22 : (Tryd.prog.info? 22).map (·.size) = some 1 := by kernel_rfl
theorem ty23 : Ty1 Tryd.prog 23 := ty1_of Tryd.underlying23 rfl
theorem sz23 : (Tryd.prog.info? 23).map (·.size) = some 1 := by kernel_rfl
theorem ty24 : Ty1 Tryd.prog 24 := ty1_of Tryd.underlying24 rfl
theorem sz24 : (Tryd.prog.info? 24).map (·.size) = some 1 := by kernel_rfl
theorem ty25 : Ty1 Tryd.prog 25 := ty1_of Tryd.underlying25 rfl
theorem sz25 : (Tryd.prog.info? 25).map (·.size) = some 1 := by kernel_rfl
theorem ty27 : TyR Tryd.prog 27 5 := ⟨_, Tryd.underlying27, rfl, by kernel_rfl⟩
theorem ty32 : TyR Tryd.prog 32 2 := ⟨_, Tryd.underlying32, rfl, by kernel_rfl⟩
theorem ty36 : TyR Tryd.prog 36 5 := ⟨_, Tryd.underlying36, rfl, by kernel_rfl⟩
theorem ty38 : TyR Tryd.prog 38 15 := ⟨_, Tryd.underlying38, rfl, by kernel_rfl⟩
theorem ty39 : TyR Tryd.prog 39 2 := ⟨_, Tryd.underlying39, rfl, by kernel_rfl⟩
theorem ty40 : TyR Tryd.prog 40 2 := ⟨_, Tryd.underlying40, rfl, by kernel_rfl⟩
theorem ty42 : TyR Tryd.prog 42 4 := ⟨_, Tryd.underlying42, rfl, by kernel_rfl⟩
theorem ty47 : TyR Tryd.prog 47 4 := ⟨_, Tryd.underlying47, rfl, by kernel_rfl⟩
theorem ty54 : TyR Tryd.prog 54 3 := ⟨_, Tryd.underlying54, rfl, by kernel_rfl⟩
theorem ty57 : TyR Tryd.prog 57 4 := ⟨_, Tryd.underlying57, rfl, by kernel_rfl⟩
theorem ty60 : TyR Tryd.prog 60 2 := ⟨_, Tryd.underlying60, rfl, by kernel_rfl⟩
theorem ty62 : TyR Tryd.prog 62 2 := ⟨_, Tryd.underlying62, rfl, by kernel_rfl⟩
theorem ty70 : Ty1 Tryd.prog 70 := ty1_of Tryd.underlying70 rfl
theorem sz70 : (Tryd.prog.info? 70).map (·.size) = some 1 := by kernel_rfl
theorem ty91 : Ty1 Tryd.prog 91 := ty1_of Tryd.underlying91 rfl
theorem sz91 : (Tryd.prog.info? 91).map (·.size) = some 1 := by kernel_rfl
theorem ty99 : TyR Tryd.prog 99 4 := ⟨_, Tryd.underlying99, rfl, by kernel_rfl⟩
theorem ty101 : TyR Tryd.prog 101 5 := ⟨_, Tryd.underlying101, rfl, by kernel_rfl⟩
theorem zi3 : (Tryd.prog.info? 3).map (fun i => (i.zero, i.size, i.bytes)) = some (some (.int .i64 0), 1, 8) := by kernel_rfl
theorem zi4 : (Tryd.prog.info? 4).map (fun i => (i.zero, i.size, i.bytes)) = some (some (.bool false), 1, 1) := by kernel_rfl
theorem zi27 : (Tryd.prog.info? 27).map (fun i => (i.zero, i.size, i.bytes)) = some (some (.agg #[.int .i64 0, .int .i64 0, .slice none 0 0, .slice none 0 0, .slice none 0 0]), 5, 88) := by kernel_rfl
theorem zi32 : (Tryd.prog.info? 32).map (fun i => (i.zero, i.size, i.bytes)) = some (some (.agg #[.slice none 0 0, .int .i64 0]), 2, 32) := by kernel_rfl
theorem zi36 : (Tryd.prog.info? 36).map (fun i => (i.zero, i.size, i.bytes)) = some (some (.agg #[.int .i64 0, .int .i64 0, .int .i64 0, .int .i64 0, .int .i64 0]), 5, 40) := by kernel_rfl
theorem zi38 : (Tryd.prog.info? 38).map (fun i => (i.zero, i.size, i.bytes)) = some (some (.agg #[.int .i64 0, .int .i64 0, .slice none 0 0, .slice none 0 0, .slice none 0 0, .int .i64 0, .int .i64 0, .slice none 0 0, .slice none 0 0, .slice none 0 0, .int .i64 0, .int .i64 0, .slice none 0 0, .slice none 0 0, .slice none 0 0]), 15, 264) := by kernel_rfl
theorem zi39 : (Tryd.prog.info? 39).map (fun i => (i.zero, i.size, i.bytes)) = some (some (.agg #[.slice none 0 0, .slice none 0 0]), 2, 48) := by kernel_rfl
theorem zi40 : (Tryd.prog.info? 40).map (fun i => (i.zero, i.size, i.bytes)) = some (some (.agg #[.int .i64 0, .int .i64 0]), 2, 16) := by kernel_rfl
theorem zi42 : (Tryd.prog.info? 42).map (fun i => (i.zero, i.size, i.bytes)) = some (some (.agg #[.int .i64 0, .int .i64 0, .int .i64 0, .int .i64 0]), 4, 32) := by kernel_rfl
theorem zi47 : (Tryd.prog.info? 47).map (fun i => (i.zero, i.size, i.bytes)) = some (some (.agg #[.int .i64 0, .int .i64 0, .int .i64 0, .int .i64 0]), 4, 32) := by kernel_rfl
theorem zi54 : (Tryd.prog.info? 54).map (fun i => (i.zero, i.size, i.bytes)) = some (some (.agg #[.int .i64 0, .int .i64 0, .int .i64 0]), 3, 24) := by kernel_rfl
theorem zi57 : (Tryd.prog.info? 57).map (fun i => (i.zero, i.size, i.bytes)) = some (some (.agg #[.int .i64 0, .int .i64 0, .int .i64 0, .int .i64 0]), 4, 32) := by kernel_rfl
theorem zi60 : (Tryd.prog.info? 60).map (fun i => (i.zero, i.size, i.bytes)) = some (some (.agg #[.int .i64 0, .int .i64 0]), 2, 16) := by kernel_rfl
theorem zi62 : (Tryd.prog.info? 62).map (fun i => (i.zero, i.size, i.bytes)) = some (some (.agg #[.int .i64 0, .int .i64 0]), 2, 16) := by kernel_rfl
theorem zi70 : (Tryd.prog.info? 70).map (fun i => (i.zero, i.size, i.bytes)) = some (some (.slice none 0 0), 1, 24) := by kernel_rfl
theorem zi99 : (Tryd.prog.info? 99).map (fun i => (i.zero, i.size, i.bytes)) = some (some (.agg #[.int .i64 0, .int .i64 0, .int .i64 0, .int .i64 0]), 4, 32) := by kernel_rfl
theorem zi101 : (Tryd.prog.info? 101).map (fun i => (i.zero, i.size, i.bytes)) = some (some (.agg #[.int .i64 0, .int .i64 0, .int .i64 0, .int .i64 0, .int .i64 0]), 5, 40) := by kernel_rfl
theorem fo27_0 : Fo Tryd.prog 27 0 0 := fo_of Tryd.underlying27 rfl rfl (by kernel_rfl : (Tryd.prog.info? 3).map (·.size) = some 1) (by decide)
theorem fo27_1 : Fo Tryd.prog 27 1 1 := fo_of Tryd.underlying27 rfl rfl (by kernel_rfl : (Tryd.prog.info? 3).map (·.size) = some 1) (by decide)
theorem fo27_2 : Fo Tryd.prog 27 2 2 := fo_of Tryd.underlying27 rfl rfl (by kernel_rfl : (Tryd.prog.info? 23).map (·.size) = some 1) (by decide)
theorem fo27_3 : Fo Tryd.prog 27 3 3 := fo_of Tryd.underlying27 rfl rfl (by kernel_rfl : (Tryd.prog.info? 24).map (·.size) = some 1) (by decide)
theorem fo27_4 : Fo Tryd.prog 27 4 4 := fo_of Tryd.underlying27 rfl rfl (by kernel_rfl : (Tryd.prog.info? 25).map (·.size) = some 1) (by decide)
theorem fo32_0 : Fo Tryd.prog 32 0 0 := fo_of Tryd.underlying32 rfl rfl (by kernel_rfl : (Tryd.prog.info? 22).map (·.size) = some 1) (by decide)
theorem fo32_1 : Fo Tryd.prog 32 1 1 := fo_of Tryd.underlying32 rfl rfl (by kernel_rfl : (Tryd.prog.info? 3).map (·.size) = some 1) (by decide)
theorem fo47_0 : Fo Tryd.prog 47 0 0 := fo_of Tryd.underlying47 rfl rfl (by kernel_rfl : (Tryd.prog.info? 3).map (·.size) = some 1) (by decide)
theorem fo47_1 : Fo Tryd.prog 47 1 1 := fo_of Tryd.underlying47 rfl rfl (by kernel_rfl : (Tryd.prog.info? 3).map (·.size) = some 1) (by decide)
theorem fo47_2 : Fo Tryd.prog 47 2 2 := fo_of Tryd.underlying47 rfl rfl (by kernel_rfl : (Tryd.prog.info? 3).map (·.size) = some 1) (by decide)
theorem fo47_3 : Fo Tryd.prog 47 3 3 := fo_of Tryd.underlying47 rfl rfl (by kernel_rfl : (Tryd.prog.info? 3).map (·.size) = some 1) (by decide)
theorem fo54_0 : Fo Tryd.prog 54 0 0 := fo_of Tryd.underlying54 rfl rfl (by kernel_rfl : (Tryd.prog.info? 3).map (·.size) = some 1) (by decide)
theorem fo54_1 : Fo Tryd.prog 54 1 1 := fo_of Tryd.underlying54 rfl rfl (by kernel_rfl : (Tryd.prog.info? 3).map (·.size) = some 1) (by decide)
theorem fo54_2 : Fo Tryd.prog 54 2 2 := fo_of Tryd.underlying54 rfl rfl (by kernel_rfl : (Tryd.prog.info? 3).map (·.size) = some 1) (by decide)
theorem fo60_0 : Fo Tryd.prog 60 0 0 := fo_of Tryd.underlying60 rfl rfl (by kernel_rfl : (Tryd.prog.info? 3).map (·.size) = some 1) (by decide)
theorem fo60_1 : Fo Tryd.prog 60 1 1 := fo_of Tryd.underlying60 rfl rfl (by kernel_rfl : (Tryd.prog.info? 3).map (·.size) = some 1) (by decide)
theorem fo62_0 : Fo Tryd.prog 62 0 0 := fo_of Tryd.underlying62 rfl rfl (by kernel_rfl : (Tryd.prog.info? 3).map (·.size) = some 1) (by decide)
theorem fo62_1 : Fo Tryd.prog 62 1 1 := fo_of Tryd.underlying62 rfl rfl (by kernel_rfl : (Tryd.prog.info? 3).map (·.size) = some 1) (by decide)
theorem fo101_0 : Fo Tryd.prog 101 0 0 := fo_of Tryd.underlying101 rfl rfl (by kernel_rfl : (Tryd.prog.info? 99).map (·.size) = some 4) (by decide)
theorem fo101_1 : Fo Tryd.prog 101 1 4 := fo_of Tryd.underlying101 rfl rfl (by kernel_rfl : (Tryd.prog.info? 3).map (·.size) = some 1) (by decide)
theorem ix22 : Ix Tryd.prog 22 1 := ix_of Tryd.underlying22 (by kernel_rfl)
theorem ix23 : Ix Tryd.prog 23 3 := ix_of Tryd.underlying23 (by kernel_rfl)
theorem ix24 : Ix Tryd.prog 24 2 := ix_of Tryd.underlying24 (by kernel_rfl)
theorem ix25 : Ix Tryd.prog 25 2 := ix_of Tryd.underlying25 (by kernel_rfl)
theorem ix28 : Ix Tryd.prog 28 4 := ix_of Tryd.underlying28 (by kernel_rfl)
theorem ix70 : Ix Tryd.prog 70 1 := ix_of Tryd.underlying70 (by kernel_rfl)
theorem ix81 : Ix Tryd.prog 81 1 := ix_of Tryd.underlying81 (by kernel_rfl)
theorem ix92 : Ix Tryd.prog 92 4 := ix_of Tryd.underlying92 (by kernel_rfl)
theorem ix96 : Ix Tryd.prog 96 5 := ix_of Tryd.underlying96 (by kernel_rfl)
theorem bd27_0_1 (x0 : Int) (x1 : Int) : Tryd.prog.built 27 [(0, .int .i64 x0), (1, .int .i64 x1)] = some #[.int .i64 x0, .int .i64 x1, .slice none 0 0, .slice none 0 0, .slice none 0 0] := by kernel_rfl
theorem bd27_0_1_2 (x0 : Int) (x1 : Int) (x2A : Option Addr) (x2n x2c : Nat) : Tryd.prog.built 27 [(0, .int .i64 x0), (1, .int .i64 x1), (2, .slice x2A x2n x2c)] = some #[.int .i64 x0, .int .i64 x1, .slice x2A x2n x2c, .slice none 0 0, .slice none 0 0] := by kernel_rfl
theorem bd32_0 (x0A : Option Addr) (x0n x0c : Nat) : Tryd.prog.built 32 [(0, .slice x0A x0n x0c)] = some #[.slice x0A x0n x0c, .int .i64 0] := by kernel_rfl
theorem bd47_  : Tryd.prog.built 47 [] = some #[.int .i64 0, .int .i64 0, .int .i64 0, .int .i64 0] := by kernel_rfl
theorem bd47_0_1_2_3 (x0 : Int) (x1 : Int) (x2 : Int) (x3 : Int) : Tryd.prog.built 47 [(0, .int .i64 x0), (1, .int .i64 x1), (2, .int .i64 x2), (3, .int .i64 x3)] = some #[.int .i64 x0, .int .i64 x1, .int .i64 x2, .int .i64 x3] := by kernel_rfl
theorem bd47_1_2 (x1 : Int) (x2 : Int) : Tryd.prog.built 47 [(1, .int .i64 x1), (2, .int .i64 x2)] = some #[.int .i64 0, .int .i64 x1, .int .i64 x2, .int .i64 0] := by kernel_rfl
theorem bd54_0_1_2 (x0 : Int) (x1 : Int) (x2 : Int) : Tryd.prog.built 54 [(0, .int .i64 x0), (1, .int .i64 x1), (2, .int .i64 x2)] = some #[.int .i64 x0, .int .i64 x1, .int .i64 x2] := by kernel_rfl
theorem bd54_2 (x2 : Int) : Tryd.prog.built 54 [(2, .int .i64 x2)] = some #[.int .i64 0, .int .i64 0, .int .i64 x2] := by kernel_rfl
theorem bd60_0_1 (x0 : Int) (x1 : Int) : Tryd.prog.built 60 [(0, .int .i64 x0), (1, .int .i64 x1)] = some #[.int .i64 x0, .int .i64 x1] := by kernel_rfl
theorem bd62_0_1 (x0 : Int) (x1 : Int) : Tryd.prog.built 62 [(0, .int .i64 x0), (1, .int .i64 x1)] = some #[.int .i64 x0, .int .i64 x1] := by kernel_rfl
theorem bd99_0_1_2_3 (x0 : Int) (x1 : Int) (x2 : Int) (x3 : Int) : Tryd.prog.built 99 [(0, .int .i64 x0), (1, .int .i64 x1), (2, .int .i64 x2), (3, .int .i64 x3)] = some #[.int .i64 x0, .int .i64 x1, .int .i64 x2, .int .i64 x3] := by kernel_rfl
theorem bd101_0_1 (x0a : Int) (x0b : Int) (x0c : Int) (x0d : Int) (x1 : Int) : Tryd.prog.built 101 [(0, .agg #[.int .i64 x0a, .int .i64 x0b, .int .i64 x0c, .int .i64 x0d]), (1, .int .i64 x1)] = some #[.int .i64 x0a, .int .i64 x0b, .int .i64 x0c, .int .i64 x0d, .int .i64 x1] := by kernel_rfl
theorem eqS47 (xa : Int) (xb : Int) (xc : Int) (xd : Int) (ya : Int) (yb : Int) (yc : Int) (yd : Int) : ∀ w, (binOp .eql 47 (.agg #[.int .i64 xa, .int .i64 xb, .int .i64 xc, .int .i64 xd]) (.agg #[.int .i64 ya, .int .i64 yb, .int .i64 yc, .int .i64 yd])).run Tryd.prog w = .ok (.bool (decide (xa = ya ∧ xb = yb ∧ xc = yc ∧ xd = yd))) w := by
  intro w
  simp [go_sem]
  by_cases h0 : xa = ya
  · by_cases h1 : xb = yb
    · by_cases h2 : xc = yc
      · by_cases h3 : xd = yd
        · simp [h0, h1, h2, h3]
        · simp [h0, h1, h2, h3]
      · simp [h0, h1, h2]
    · simp [h0, h1]
  · simp [h0]
theorem eg47_eql : Tryd.prog.eqGuardType Tryd.prog.depth 47 = false := by kernel_rfl
theorem neS47 (xa : Int) (xb : Int) (xc : Int) (xd : Int) (ya : Int) (yb : Int) (yc : Int) (yd : Int) : ∀ w, (binOp .neq 47 (.agg #[.int .i64 xa, .int .i64 xb, .int .i64 xc, .int .i64 xd]) (.agg #[.int .i64 ya, .int .i64 yb, .int .i64 yc, .int .i64 yd])).run Tryd.prog w = .ok (.bool (!decide (xa = ya ∧ xb = yb ∧ xc = yc ∧ xd = yd))) w := by
  intro w
  simp [go_sem]
  by_cases h0 : xa = ya
  · by_cases h1 : xb = yb
    · by_cases h2 : xc = yc
      · by_cases h3 : xd = yd
        · simp [h0, h1, h2, h3]
        · simp [h0, h1, h2, h3]
      · simp [h0, h1, h2]
    · simp [h0, h1]
  · simp [h0]
theorem eg47_neq : Tryd.prog.eqGuardType Tryd.prog.depth 47 = false := by kernel_rfl
theorem bs22_1 (x0 : Int) : ∀ w, (Instr.buildSlice 22 1 #[(0, .int .i64 x0)]).run Tryd.prog w = .ok (.slice (some ⟨w.heap.size, 0, none⟩) 1 1) (w.alloc (.cells #[.int .i64 x0] 3)) := bs_of Tryd.underlying22 zi3 (by decide) (by decide) (by kernel_rfl)
theorem bs22_4 (x0 : Int) (x1 : Int) (x2 : Int) (x3 : Int) : ∀ w, (Instr.buildSlice 22 4 #[(0, .int .i64 x0), (1, .int .i64 x1), (2, .int .i64 x2), (3, .int .i64 x3)]).run Tryd.prog w = .ok (.slice (some ⟨w.heap.size, 0, none⟩) 4 4) (w.alloc (.cells #[.int .i64 x0, .int .i64 x1, .int .i64 x2, .int .i64 x3] 3)) := bs_of Tryd.underlying22 zi3 (by decide) (by decide) (by kernel_rfl)
theorem bs22_5 (x0 : Int) (x1 : Int) (x2 : Int) (x3 : Int) (x4 : Int) : ∀ w, (Instr.buildSlice 22 5 #[(0, .int .i64 x0), (1, .int .i64 x1), (2, .int .i64 x2), (3, .int .i64 x3), (4, .int .i64 x4)]).run Tryd.prog w = .ok (.slice (some ⟨w.heap.size, 0, none⟩) 5 5) (w.alloc (.cells #[.int .i64 x0, .int .i64 x1, .int .i64 x2, .int .i64 x3, .int .i64 x4] 3)) := bs_of Tryd.underlying22 zi3 (by decide) (by decide) (by kernel_rfl)
theorem bs23_1 (x0a : Int) (x0b : Int) (x0c : Int) : ∀ w, (Instr.buildSlice 23 1 #[(0, .agg #[.int .i64 x0a, .int .i64 x0b, .int .i64 x0c])]).run Tryd.prog w = .ok (.slice (some ⟨w.heap.size, 0, none⟩) 1 1) (w.alloc (.cells #[.int .i64 x0a, .int .i64 x0b, .int .i64 x0c] 54)) := bs_of Tryd.underlying23 zi54 (by decide) (by decide) (by kernel_rfl)
theorem bs24_1 (x0a : Int) (x0b : Int) : ∀ w, (Instr.buildSlice 24 1 #[(0, .agg #[.int .i64 x0a, .int .i64 x0b])]).run Tryd.prog w = .ok (.slice (some ⟨w.heap.size, 0, none⟩) 1 1) (w.alloc (.cells #[.int .i64 x0a, .int .i64 x0b] 60)) := bs_of Tryd.underlying24 zi60 (by decide) (by decide) (by kernel_rfl)
theorem bs25_1 (x0a : Int) (x0b : Int) : ∀ w, (Instr.buildSlice 25 1 #[(0, .agg #[.int .i64 x0a, .int .i64 x0b])]).run Tryd.prog w = .ok (.slice (some ⟨w.heap.size, 0, none⟩) 1 1) (w.alloc (.cells #[.int .i64 x0a, .int .i64 x0b] 62)) := bs_of Tryd.underlying25 zi62 (by decide) (by decide) (by kernel_rfl)
theorem bs28_1 (x0a : Int) (x0b : Int) (x0c : Int) (x0d : Int) : ∀ w, (Instr.buildSlice 28 1 #[(0, .agg #[.int .i64 x0a, .int .i64 x0b, .int .i64 x0c, .int .i64 x0d])]).run Tryd.prog w = .ok (.slice (some ⟨w.heap.size, 0, none⟩) 1 1) (w.alloc (.cells #[.int .i64 x0a, .int .i64 x0b, .int .i64 x0c, .int .i64 x0d] 47)) := bs_of Tryd.underlying28 zi47 (by decide) (by decide) (by kernel_rfl)
theorem bs92_0 (w : World) : (Instr.buildSlice 92 0 #[]).run Tryd.prog w = .ok (.slice (some ⟨w.heap.size, 0, none⟩) 0 0) (w.alloc (.cells (List.toArray []) 99)) := bs0_of Tryd.underlying92 zi99 w
theorem bs92_1 (x0a : Int) (x0b : Int) (x0c : Int) (x0d : Int) : ∀ w, (Instr.buildSlice 92 1 #[(0, .agg #[.int .i64 x0a, .int .i64 x0b, .int .i64 x0c, .int .i64 x0d])]).run Tryd.prog w = .ok (.slice (some ⟨w.heap.size, 0, none⟩) 1 1) (w.alloc (.cells #[.int .i64 x0a, .int .i64 x0b, .int .i64 x0c, .int .i64 x0d] 99)) := bs_of Tryd.underlying92 zi99 (by decide) (by decide) (by kernel_rfl)
theorem bs96_1 (x0aa : Int) (x0ab : Int) (x0ac : Int) (x0ad : Int) (x0b : Int) : ∀ w, (Instr.buildSlice 96 1 #[(0, .agg #[.int .i64 x0aa, .int .i64 x0ab, .int .i64 x0ac, .int .i64 x0ad, .int .i64 x0b])]).run Tryd.prog w = .ok (.slice (some ⟨w.heap.size, 0, none⟩) 1 1) (w.alloc (.cells #[.int .i64 x0aa, .int .i64 x0ab, .int .i64 x0ac, .int .i64 x0ad, .int .i64 x0b] 101)) := bs_of Tryd.underlying96 zi101 (by decide) (by decide) (by kernel_rfl)
theorem en8 : Enters Tryd.prog 8 := enters_of Tryd.func8 (by kernel_rfl) rfl
theorem en9 : Enters Tryd.prog 9 := enters_of Tryd.func9 (by kernel_rfl) rfl
theorem en10 : Enters Tryd.prog 10 := enters_of Tryd.func10 (by kernel_rfl) rfl
theorem en11 : Enters Tryd.prog 11 := enters_of Tryd.func11 (by kernel_rfl) rfl
theorem en12 : Enters Tryd.prog 12 := enters_of Tryd.func12 (by kernel_rfl) rfl
theorem en13 : Enters Tryd.prog 13 := enters_of Tryd.func13 (by kernel_rfl) rfl
theorem en14 : Enters Tryd.prog 14 := enters_of Tryd.func14 (by kernel_rfl) rfl
theorem en15 : Enters Tryd.prog 15 := enters_of Tryd.func15 (by kernel_rfl) rfl
theorem en16 : Enters Tryd.prog 16 := enters_of Tryd.func16 (by kernel_rfl) rfl
theorem en17 : Enters Tryd.prog 17 := enters_of Tryd.func17 (by kernel_rfl) rfl
theorem en18 : Enters Tryd.prog 18 := enters_of Tryd.func18 (by kernel_rfl) rfl
theorem en19 : Enters Tryd.prog 19 := enters_of Tryd.func19 (by kernel_rfl) rfl
theorem en20 : Enters Tryd.prog 20 := enters_of Tryd.func20 (by kernel_rfl) rfl
theorem en21 : Enters Tryd.prog 21 := enters_of Tryd.func21 (by kernel_rfl) rfl
theorem en22 : Enters Tryd.prog 22 := enters_of Tryd.func22 (by kernel_rfl) rfl
theorem en23 : Enters Tryd.prog 23 := enters_of Tryd.func23 (by kernel_rfl) rfl
theorem en24 : Enters Tryd.prog 24 := enters_of Tryd.func24 (by kernel_rfl) rfl
theorem en25 : Enters Tryd.prog 25 := enters_of Tryd.func25 (by kernel_rfl) rfl
theorem en26 : Enters Tryd.prog 26 := enters_of Tryd.func26 (by kernel_rfl) rfl
theorem en27 : Enters Tryd.prog 27 := enters_of Tryd.func27 (by kernel_rfl) rfl
theorem en28 : Enters Tryd.prog 28 := enters_of Tryd.func28 (by kernel_rfl) rfl
theorem en29 : Enters Tryd.prog 29 := enters_of Tryd.func29 (by kernel_rfl) rfl
theorem en30 : Enters Tryd.prog 30 := enters_of Tryd.func30 (by kernel_rfl) rfl
theorem en31 : Enters Tryd.prog 31 := enters_of Tryd.func31 (by kernel_rfl) rfl
theorem en32 : Enters Tryd.prog 32 := enters_of Tryd.func32 (by kernel_rfl) rfl
theorem en33 : Enters Tryd.prog 33 := enters_of Tryd.func33 (by kernel_rfl) rfl
theorem en34 : Enters Tryd.prog 34 := enters_of Tryd.func34 (by kernel_rfl) rfl
theorem en35 : Enters Tryd.prog 35 := enters_of Tryd.func35 (by kernel_rfl) rfl
theorem en36 : Enters Tryd.prog 36 := enters_of Tryd.func36 (by kernel_rfl) rfl
theorem en37 : Enters Tryd.prog 37 := enters_of Tryd.func37 (by kernel_rfl) rfl
theorem en38 : Enters Tryd.prog 38 := enters_of Tryd.func38 (by kernel_rfl) rfl
theorem en39 : Enters Tryd.prog 39 := enters_of Tryd.func39 (by kernel_rfl) rfl
theorem en40 : Enters Tryd.prog 40 := enters_of Tryd.func40 (by kernel_rfl) rfl
theorem en41 : Enters Tryd.prog 41 := enters_of Tryd.func41 (by kernel_rfl) rfl
theorem en42 : Enters Tryd.prog 42 := enters_of Tryd.func42 (by kernel_rfl) rfl
theorem en43 : Enters Tryd.prog 43 := enters_of Tryd.func43 (by kernel_rfl) rfl
theorem en44 : Enters Tryd.prog 44 := enters_of Tryd.func44 (by kernel_rfl) rfl
theorem en45 : Enters Tryd.prog 45 := enters_of Tryd.func45 (by kernel_rfl) rfl
theorem en46 : Enters Tryd.prog 46 := enters_of Tryd.func46 (by kernel_rfl) rfl
theorem en47 : Enters Tryd.prog 47 := enters_of Tryd.func47 (by kernel_rfl) rfl
theorem en48 : Enters Tryd.prog 48 := enters_of Tryd.func48 (by kernel_rfl) rfl
theorem en49 : Enters Tryd.prog 49 := enters_of Tryd.func49 (by kernel_rfl) rfl
theorem en50 : Enters Tryd.prog 50 := enters_of Tryd.func50 (by kernel_rfl) rfl
theorem en51 : Enters Tryd.prog 51 := enters_of Tryd.func51 (by kernel_rfl) rfl
theorem en52 : Enters Tryd.prog 52 := enters_of Tryd.func52 (by kernel_rfl) rfl
theorem en53 : Enters Tryd.prog 53 := enters_of Tryd.func53 (by kernel_rfl) rfl
theorem en54 : Enters Tryd.prog 54 := enters_of Tryd.func54 (by kernel_rfl) rfl
theorem en55 : Enters Tryd.prog 55 := enters_of Tryd.func55 (by kernel_rfl) rfl
theorem en56 : Enters Tryd.prog 56 := enters_of Tryd.func56 (by kernel_rfl) rfl
theorem en57 : Enters Tryd.prog 57 := enters_of Tryd.func57 (by kernel_rfl) rfl
theorem en58 : Enters Tryd.prog 58 := enters_of Tryd.func58 (by kernel_rfl) rfl
theorem en59 : Enters Tryd.prog 59 := enters_of Tryd.func59 (by kernel_rfl) rfl
theorem en60 : Enters Tryd.prog 60 := enters_of Tryd.func60 (by kernel_rfl) rfl
theorem en61 : Enters Tryd.prog 61 := enters_of Tryd.func61 (by kernel_rfl) rfl
theorem en62 : Enters Tryd.prog 62 := enters_of Tryd.func62 (by kernel_rfl) rfl

end Go.Proofs.YtahggnlmabdbbaaDoor.Sx
