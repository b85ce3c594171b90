import Derived.Test.YtahggnlmabdbbaaSxD
import Derived.Test.YtahggnlmabdbbaaProg
namespace Go.Proofs.Ytahggnlmabdbbaa.Sx
open Go.RowKit Go.Shelf
set_option maxRecDepth 100000

theorem mx : Try.prog.follows .mixedOrders = true := by kernel_rfl
theorem ty3 : Ty1 Try.prog 3 := ty1_of Try.underlying3 rfl
theorem sz3 : (Try.prog.info? 3).map (·.size) = some 1 := by kernel_rfl
theorem ty22 : Ty1 Try.prog 22 := ty1_of Try.underlying22 rfl
theorem sz22 : (Try.prog.info? 22).map (·.size) = some 1 := by kernel_rfl
theorem ty26 : TyR Try.prog 26 2 := ⟨_, Try.underlying26, rfl, by kernel_rfl⟩
theorem ty27 : Ty1 Try.prog 27 := ty1_of Try.underlying27 rfl
theorem sz27 : (Try.prog.info? 27).map (·.size) = some 1 := by kernel_rfl
theorem ty28 : Ty1 Try.prog 28 := ty1_of Try.underlying28 rfl
theorem sz28 : (Try.prog.info? 28).map (·.size) = some 1 := by kernel_rfl
theorem ty29 : Ty1 Try.prog 29 := ty1_of Try.underlying29 rfl
theorem sz29 : (Try.prog.info? 29).map (·.size) = some 1 := by kernel_rfl
theorem ty31 : TyR Try.prog 31 5 := ⟨_, Try.underlying31, rfl, by kernel_rfl⟩
theorem ty43 : TyR Try.prog 43 3 := ⟨_, Try.underlying43, rfl, by kernel_rfl⟩
theorem ty45 : TyR Try.prog 45 2 := ⟨_, Try.underlying45, rfl, by kernel_rfl⟩
theorem ty47 : TyR Try.prog 47 2 := ⟨_, Try.underlying47, rfl, by kernel_rfl⟩
theorem ty57 : Ty1 Try.prog 57 := ty1_of Try.underlying57 rfl
theorem sz57 : (Try.prog.info? 57).map (·.size) = some 1 := by kernel_rfl
theorem ty61 : TyR Try.prog 61 4 := ⟨_, Try.underlying61, rfl, by kernel_rfl⟩
theorem ty65 : TyR Try.prog 65 5 := ⟨_, Try.underlying65, rfl, by kernel_rfl⟩
theorem zi3 : (Try.prog.info? 3).map (fun i => (i.zero, i.size, i.bytes)) = some (some (.int .i64 0), 1, 8) := by kernel_rfl
theorem zi26 : (Try.prog.info? 26).map (fun i => (i.zero, i.size, i.bytes)) = some (some (.agg #[.slice none 0 0, .int .i64 0]), 2, 32) := by kernel_rfl
theorem zi31 : (Try.prog.info? 31).map (fun i => (i.zero, i.size, i.bytes)) = some (some (.agg #[.int .i64 0, .int .i64 0, .slice none 0 0, .slice none 0 0, .slice none 0 0]), 5, 88) := by kernel_rfl
theorem zi43 : (Try.prog.info? 43).map (fun i => (i.zero, i.size, i.bytes)) = some (some (.agg #[.int .i64 0, .int .i64 0, .int .i64 0]), 3, 24) := by kernel_rfl
theorem zi45 : (Try.prog.info? 45).map (fun i => (i.zero, i.size, i.bytes)) = some (some (.agg #[.int .i64 0, .int .i64 0]), 2, 16) := by kernel_rfl
theorem zi47 : (Try.prog.info? 47).map (fun i => (i.zero, i.size, i.bytes)) = some (some (.agg #[.int .i64 0, .int .i64 0]), 2, 16) := by kernel_rfl
theorem zi61 : (Try.prog.info? 61).map (fun i => (i.zero, i.size, i.bytes)) = some (some (.agg #[.int .i64 0, .int .i64 0, .int .i64 0, .int .i64 0]), 4, 32) := by kernel_rfl
theorem zi65 : (Try.prog.info? 65).map (fun i => (i.zero, i.size, i.bytes)) = some (some (.agg #[.int .i64 0, .int .i64 0, .int .i64 0, .int .i64 0, .int .i64 0]), 5, 40) := by kernel_rfl
theorem fo26_0 : Fo Try.prog 26 0 0 := fo_of Try.underlying26 rfl rfl (by kernel_rfl : (Try.prog.info? 22).map (·.size) = some 1) (by decide)
theorem fo26_1 : Fo Try.prog 26 1 1 := fo_of Try.underlying26 rfl rfl (by kernel_rfl : (Try.prog.info? 3).map (·.size) = some 1) (by decide)
theorem fo31_0 : Fo Try.prog 31 0 0 := fo_of Try.underlying31 rfl rfl (by kernel_rfl : (Try.prog.info? 3).map (·.size) = some 1) (by decide)
theorem fo31_1 : Fo Try.prog 31 1 1 := fo_of Try.underlying31 rfl rfl (by kernel_rfl : (Try.prog.info? 3).map (·.size) = some 1) (by decide)
theorem fo31_2 : Fo Try.prog 31 2 2 := fo_of Try.underlying31 rfl rfl (by kernel_rfl : (Try.prog.info? 27).map (·.size) = some 1) (by decide)
theorem fo31_3 : Fo Try.prog 31 3 3 := fo_of Try.underlying31 rfl rfl (by kernel_rfl : (Try.prog.info? 28).map (·.size) = some 1) (by decide)
theorem fo31_4 : Fo Try.prog 31 4 4 := fo_of Try.underlying31 rfl rfl (by kernel_rfl : (Try.prog.info? 29).map (·.size) = some 1) (by decide)
theorem fo43_0 : Fo Try.prog 43 0 0 := fo_of Try.underlying43 rfl rfl (by kernel_rfl : (Try.prog.info? 3).map (·.size) = some 1) (by decide)
theorem fo43_1 : Fo Try.prog 43 1 1 := fo_of Try.underlying43 rfl rfl (by kernel_rfl : (Try.prog.info? 3).map (·.size) = some 1) (by decide)
theorem fo43_2 : Fo Try.prog 43 2 2 := fo_of Try.underlying43 rfl rfl (by kernel_rfl : (Try.prog.info? 3).map (·.size) = some 1) (by decide)
theorem fo45_0 : Fo Try.prog 45 0 0 := fo_of Try.underlying45 rfl rfl (by kernel_rfl : (Try.prog.info? 3).map (·.size) = some 1) (by decide)
theorem fo45_1 : Fo Try.prog 45 1 1 := fo_of Try.underlying45 rfl rfl (by kernel_rfl : (Try.prog.info? 3).map (·.size) = some 1) (by decide)
theorem fo47_0 : Fo Try.prog 47 0 0 := fo_of Try.underlying47 rfl rfl (by kernel_rfl : (Try.prog.info? 3).map (·.size) = some 1) (by decide)
theorem fo47_1 : Fo Try.prog 47 1 1 := fo_of Try.underlying47 rfl rfl (by kernel_rfl : (Try.prog.info? 3).map (·.size) = some 1) (by decide)
theorem fo61_0 : Fo Try.prog 61 0 0 := fo_of Try.underlying61 rfl rfl (by kernel_rfl : (Try.prog.info? 3).map (·.size) = some 1) (by decide)
theorem fo61_1 : Fo Try.prog 61 1 1 := fo_of Try.underlying61 rfl rfl (by kernel_rfl : (Try.prog.info? 3).map (·.size) = some 1) (by decide)
theorem fo61_2 : Fo Try.prog 61 2 2 := fo_of Try.underlying61 rfl rfl (by kernel_rfl : (Try.prog.info? 3).map (·.size) = some 1) (by decide)
theorem fo61_3 : Fo Try.prog 61 3 3 := fo_of Try.underlying61 rfl rfl (by kernel_rfl : (Try.prog.info? 3).map (·.size) = some 1) (by decide)
theorem fo65_0 : Fo Try.prog 65 0 0 := fo_of Try.underlying65 rfl rfl (by kernel_rfl : (Try.prog.info? 61).map (·.size) = some 4) (by decide)
theorem fo65_1 : Fo Try.prog 65 1 4 := fo_of Try.underlying65 rfl rfl (by kernel_rfl : (Try.prog.info? 3).map (·.size) = some 1) (by decide)
theorem ix22 : Ix Try.prog 22 1 := ix_of Try.underlying22 (by kernel_rfl)
theorem ix27 : Ix Try.prog 27 3 := ix_of Try.underlying27 (by kernel_rfl)
theorem ix28 : Ix Try.prog 28 2 := ix_of Try.underlying28 (by kernel_rfl)
theorem ix29 : Ix Try.prog 29 2 := ix_of Try.underlying29 (by kernel_rfl)
theorem ix48 : Ix Try.prog 48 4 := ix_of Try.underlying48 (by kernel_rfl)
theorem ix63 : Ix Try.prog 63 5 := ix_of Try.underlying63 (by kernel_rfl)
theorem bd26_0 (x0A : Option Addr) (x0n x0c : Nat) : Try.prog.built 26 [(0, .slice x0A x0n x0c)] = some #[.slice x0A x0n x0c, .int .i64 0] := by kernel_rfl
theorem bd31_0_1 (x0 : Int) (x1 : Int) : Try.prog.built 31 [(0, .int .i64 x0), (1, .int .i64 x1)] = some #[.int .i64 x0, .int .i64 x1, .slice none 0 0, .slice none 0 0, .slice none 0 0] := by kernel_rfl
theorem bd31_0_1_2_3 (x0 : Int) (x1 : Int) (x2A : Option Addr) (x2n x2c : Nat) (x3A : Option Addr) (x3n x3c : Nat) : Try.prog.built 31 [(0, .int .i64 x0), (1, .int .i64 x1), (2, .slice x2A x2n x2c), (3, .slice x3A x3n x3c)] = some #[.int .i64 x0, .int .i64 x1, .slice x2A x2n x2c, .slice x3A x3n x3c, .slice none 0 0] := by kernel_rfl
theorem bd43_0_1_2 (x0 : Int) (x1 : Int) (x2 : Int) : Try.prog.built 43 [(0, .int .i64 x0), (1, .int .i64 x1), (2, .int .i64 x2)] = some #[.int .i64 x0, .int .i64 x1, .int .i64 x2] := by kernel_rfl
theorem bd45_0_1 (x0 : Int) (x1 : Int) : Try.prog.built 45 [(0, .int .i64 x0), (1, .int .i64 x1)] = some #[.int .i64 x0, .int .i64 x1] := by kernel_rfl
theorem bd47_0_1 (x0 : Int) (x1 : Int) : Try.prog.built 47 [(0, .int .i64 x0), (1, .int .i64 x1)] = some #[.int .i64 x0, .int .i64 x1] := by kernel_rfl
theorem bd61_0_1_2_3 (x0 : Int) (x1 : Int) (x2 : Int) (x3 : Int) : Try.prog.built 61 [(0, .int .i64 x0), (1, .int .i64 x1), (2, .int .i64 x2), (3, .int .i64 x3)] = some #[.int .i64 x0, .int .i64 x1, .int .i64 x2, .int .i64 x3] := by kernel_rfl
theorem bd65_0_1 (x0a : Int) (x0b : Int) (x0c : Int) (x0d : Int) (x1 : Int) : Try.prog.built 65 [(0, .agg #[.int .i64 x0a, .int .i64 x0b, .int .i64 x0c, .int .i64 x0d]), (1, .int .i64 x1)] = some #[.int .i64 x0a, .int .i64 x0b, .int .i64 x0c, .int .i64 x0d, .int .i64 x1] := by kernel_rfl
theorem eqS61 (xa : Int) (xb : Int) (xc : Int) (xd : Int) (ya : Int) (yb : Int) (yc : Int) (yd : Int) : ∀ w, (binOp .eql 61 (.agg #[.int .i64 xa, .int .i64 xb, .int .i64 xc, .int .i64 xd]) (.agg #[.int .i64 ya, .int .i64 yb, .int .i64 yc, .int .i64 yd])).run Try.prog w = .ok (.bool (decide (xa = ya ∧ xb = yb ∧ xc = yc ∧ xd = yd))) w := by
  intro w
  simp [go_sem]
  by_cases h0 : xa = ya
  · by_cases h1 : xb = yb
    · by_cases h2 : xc = yc
      · by_cases h3 : xd = yd
        · simp [h0, h1, h2, h3]
        · simp [h0, h1, h2, h3]
      · simp [h0, h1, h2]
    · simp [h0, h1]
  · simp [h0]
theorem eg61_eql : Try.prog.eqGuardType Try.prog.depth 61 = false := by kernel_rfl
theorem bs22_1 (x0 : Int) : ∀ w, (Instr.buildSlice 22 1 #[(0, .int .i64 x0)]).run Try.prog w = .ok (.slice (some ⟨w.heap.size, 0, none⟩) 1 1) (w.alloc (.cells #[.int .i64 x0] 3)) := bs_of Try.underlying22 zi3 (by decide) (by decide) (by kernel_rfl)
theorem bs22_2 (x0 : Int) (x1 : Int) : ∀ w, (Instr.buildSlice 22 2 #[(0, .int .i64 x0), (1, .int .i64 x1)]).run Try.prog w = .ok (.slice (some ⟨w.heap.size, 0, none⟩) 2 2) (w.alloc (.cells #[.int .i64 x0, .int .i64 x1] 3)) := bs_of Try.underlying22 zi3 (by decide) (by decide) (by kernel_rfl)
theorem bs27_1 (x0a : Int) (x0b : Int) (x0c : Int) : ∀ w, (Instr.buildSlice 27 1 #[(0, .agg #[.int .i64 x0a, .int .i64 x0b, .int .i64 x0c])]).run Try.prog w = .ok (.slice (some ⟨w.heap.size, 0, none⟩) 1 1) (w.alloc (.cells #[.int .i64 x0a, .int .i64 x0b, .int .i64 x0c] 43)) := bs_of Try.underlying27 zi43 (by decide) (by decide) (by kernel_rfl)
theorem bs27_2 (x0a : Int) (x0b : Int) (x0c : Int) (x1a : Int) (x1b : Int) (x1c : Int) : ∀ w, (Instr.buildSlice 27 2 #[(0, .agg #[.int .i64 x0a, .int .i64 x0b, .int .i64 x0c]), (1, .agg #[.int .i64 x1a, .int .i64 x1b, .int .i64 x1c])]).run Try.prog w = .ok (.slice (some ⟨w.heap.size, 0, none⟩) 2 2) (w.alloc (.cells #[.int .i64 x0a, .int .i64 x0b, .int .i64 x0c, .int .i64 x1a, .int .i64 x1b, .int .i64 x1c] 43)) := bs_of Try.underlying27 zi43 (by decide) (by decide) (by kernel_rfl)
theorem bs28_1 (x0a : Int) (x0b : Int) : ∀ w, (Instr.buildSlice 28 1 #[(0, .agg #[.int .i64 x0a, .int .i64 x0b])]).run Try.prog w = .ok (.slice (some ⟨w.heap.size, 0, none⟩) 1 1) (w.alloc (.cells #[.int .i64 x0a, .int .i64 x0b] 45)) := bs_of Try.underlying28 zi45 (by decide) (by decide) (by kernel_rfl)
theorem bs29_1 (x0a : Int) (x0b : Int) : ∀ w, (Instr.buildSlice 29 1 #[(0, .agg #[.int .i64 x0a, .int .i64 x0b])]).run Try.prog w = .ok (.slice (some ⟨w.heap.size, 0, none⟩) 1 1) (w.alloc (.cells #[.int .i64 x0a, .int .i64 x0b] 47)) := bs_of Try.underlying29 zi47 (by decide) (by decide) (by kernel_rfl)
theorem bs48_0 (w : World) : (Instr.buildSlice 48 0 #[]).run Try.prog w = .ok (.slice (some ⟨w.heap.size, 0, none⟩) 0 0) (w.alloc (.cells (List.toArray []) 61)) := bs0_of Try.underlying48 zi61 w
theorem bs48_1 (x0a : Int) (x0b : Int) (x0c : Int) (x0d : Int) : ∀ w, (Instr.buildSlice 48 1 #[(0, .agg #[.int .i64 x0a, .int .i64 x0b, .int .i64 x0c, .int .i64 x0d])]).run Try.prog w = .ok (.slice (some ⟨w.heap.size, 0, none⟩) 1 1) (w.alloc (.cells #[.int .i64 x0a, .int .i64 x0b, .int .i64 x0c, .int .i64 x0d] 61)) := bs_of Try.underlying48 zi61 (by decide) (by decide) (by kernel_rfl)
theorem bs63_1 (x0aa : Int) (x0ab : Int) (x0ac : Int) (x0ad : Int) (x0b : Int) : ∀ w, (Instr.buildSlice 63 1 #[(0, .agg #[.int .i64 x0aa, .int .i64 x0ab, .int .i64 x0ac, .int .i64 x0ad, .int .i64 x0b])]).run Try.prog w = .ok (.slice (some ⟨w.heap.size, 0, none⟩) 1 1) (w.alloc (.cells #[.int .i64 x0aa, .int .i64 x0ab, .int .i64 x0ac, .int .i64 x0ad, .int .i64 x0b] 65)) := bs_of Try.underlying63 zi65 (by decide) (by decide) (by kernel_rfl)
theorem en7 : Enters Try.prog 7 := enters_of Try.func7 (by kernel_rfl) rfl
theorem en8 : Enters Try.prog 8 := enters_of Try.func8 (by kernel_rfl) rfl
theorem en9 : Enters Try.prog 9 := enters_of Try.func9 (by kernel_rfl) rfl
theorem en10 : Enters Try.prog 10 := enters_of Try.func10 (by kernel_rfl) rfl
theorem en11 : Enters Try.prog 11 := enters_of Try.func11 (by kernel_rfl) rfl
theorem en12 : Enters Try.prog 12 := enters_of Try.func12 (by kernel_rfl) rfl
theorem en13 : Enters Try.prog 13 := enters_of Try.func13 (by kernel_rfl) rfl
theorem en14 : Enters Try.prog 14 := enters_of Try.func14 (by kernel_rfl) rfl
theorem en15 : Enters Try.prog 15 := enters_of Try.func15 (by kernel_rfl) rfl
theorem en16 : Enters Try.prog 16 := enters_of Try.func16 (by kernel_rfl) rfl
theorem en17 : Enters Try.prog 17 := enters_of Try.func17 (by kernel_rfl) rfl
theorem en18 : Enters Try.prog 18 := enters_of Try.func18 (by kernel_rfl) rfl
theorem en19 : Enters Try.prog 19 := enters_of Try.func19 (by kernel_rfl) rfl
theorem en20 : Enters Try.prog 20 := enters_of Try.func20 (by kernel_rfl) rfl
theorem en21 : Enters Try.prog 21 := enters_of Try.func21 (by kernel_rfl) rfl
theorem en22 : Enters Try.prog 22 := enters_of Try.func22 (by kernel_rfl) rfl
theorem en23 : Enters Try.prog 23 := enters_of Try.func23 (by kernel_rfl) rfl
theorem en24 : Enters Try.prog 24 := enters_of Try.func24 (by kernel_rfl) rfl
theorem en25 : Enters Try.prog 25 := enters_of Try.func25 (by kernel_rfl) rfl
theorem en26 : Enters Try.prog 26 := enters_of Try.func26 (by kernel_rfl) rfl
theorem en27 : Enters Try.prog 27 := enters_of Try.func27 (by kernel_rfl) rfl
theorem en28 : Enters Try.prog 28 := enters_of Try.func28 (by kernel_rfl) rfl
theorem en29 : Enters Try.prog 29 := enters_of Try.func29 (by kernel_rfl) rfl
theorem en30 : Enters Try.prog 30 := enters_of Try.func30 (by kernel_rfl) rfl
theorem en31 : Enters Try.prog 31 := enters_of Try.func31 (by kernel_rfl) rfl
theorem en32 : Enters Try.prog 32 := enters_of Try.func32 (by kernel_rfl) rfl
theorem en33 : Enters Try.prog 33 := enters_of Try.func33 (by kernel_rfl) rfl
theorem en34 : Enters Try.prog 34 := enters_of Try.func34 (by kernel_rfl) rfl
theorem en35 : Enters Try.prog 35 := enters_of Try.func35 (by kernel_rfl) rfl
theorem en36 : Enters Try.prog 36 := enters_of Try.func36 (by kernel_rfl) rfl
theorem en37 : Enters Try.prog 37 := enters_of Try.func37 (by kernel_rfl) rfl
theorem en38 : Enters Try.prog 38 := enters_of Try.func38 (by kernel_rfl) rfl
theorem en39 : Enters Try.prog 39 := enters_of Try.func39 (by kernel_rfl) rfl
theorem en40 : Enters Try.prog 40 := enters_of Try.func40 (by kernel_rfl) rfl
theorem en41 : Enters Try.prog 41 := enters_of Try.func41 (by kernel_rfl) rfl
theorem en42 : Enters Try.prog 42 := enters_of Try.func42 (by kernel_rfl) rfl
theorem en43 : Enters Try.prog 43 := enters_of Try.func43 (by kernel_rfl) rfl
theorem en44 : Enters Try.prog 44 := enters_of Try.func44 (by kernel_rfl) rfl
theorem en45 : Enters Try.prog 45 := enters_of Try.func45 (by kernel_rfl) rfl
theorem en46 : Enters Try.prog 46 := enters_of Try.func46 (by kernel_rfl) rfl
theorem en47 : Enters Try.prog 47 := enters_of Try.func47 (by kernel_rfl) rfl
theorem en48 : Enters Try.prog 48 := enters_of Try.func48 (by kernel_rfl) rfl
theorem en49 : Enters Try.prog 49 := enters_of Try.func49 (by kernel_rfl) rfl
theorem en50 : Enters Try.prog 50 := enters_of Try.func50 (by kernel_rfl) rfl

end Go.Proofs.Ytahggnlmabdbbaa.Sx
