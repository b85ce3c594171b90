import Derived.Test.YtamcjhibdcbdnaaCNh
import Derived.Laws.CopyOwn
namespace Go.Proofs.Ytamcjhibdcbdnaa.Cl
open Go.RowKit
open Go.Proofs.Ytamcjhibdcbdnaa.Tp
set_option linter.unusedVariables false

set_option maxRecDepth 100000 in
set_option maxHeartbeats 1000000 in
theorem mul64_one (w : World) : Calls Try.prog 85 #[.int .u64 1, .int .u64 1] w fun e w' => e = .returned (.tuple #[.int .u64 0, .int .u64 1]) ∧ w = w' := by
  go_enter Try.func85, Try.ntmps85
  go_wp2
  go_ret2
  exact ⟨rfl, rfl⟩

set_option maxRecDepth 100000 in
set_option maxHeartbeats 1000000 in
theorem mul_one (w : World) : Calls Try.prog 79 #[.int .u64 1, .int .u64 1] w fun e w' => e = .returned (.tuple #[.int .u64 0, .int .u64 1]) ∧ w = w' := by
  go_enter Try.func79, Try.ntmps79
  go_wp2_with (go_at_call 85; refine (mul64_one _).mono ?_; rintro e w' ⟨rfl, rfl⟩)
  go_ret2
  exact ⟨rfl, rfl⟩

theorem sz60 : (Try.prog.info? 60).map (·.size) = some 2 := by kernel_rfl

theorem run_copy1 (w : World) (ty : TypeId) (g0 g1 : Nat) (a b x y : Value) (t : TypeId) (hx : x.oneCell' = true) (hy : y.oneCell' = true) (hg : w.heap[g1]? = some (.cells #[a, b] t (0, 0)))
    (h0 : w.cell? ⟨g0, 0, none⟩ = some x) (h1 : w.cell? ⟨g0, 1, none⟩ = some y) :
    (Builtin.copy_ #[23, 23] ty #[.slice (some ⟨g1, 0, none⟩) 1 1, .slice (some ⟨g0, 0, none⟩) 1 1]).run Try.prog w = .ok (goInt 1) (w.setRow g1 #[x, y]) := by
  have hl := run_loadCells_list (P := Try.prog) w ⟨g0, 0, none⟩ [x, y] (fun j v hj => by
    match j with
    | 0 => cases hj; exact h0
    | 1 => cases hj; exact h1
    | j + 2 => cases hj)
  have hst := run_storeCells_at Try.prog g1 0 t [x, y] 0 #[a, b] w hg (by simp) (fun v hv => by
    simp at hv
    rcases hv with rfl | rfl <;> assumption)
  have hu : Try.prog.underlying 23 = some (.slice 60) := by kernel_rfl
  have hs := sz60
  cases hq : Try.prog.info? 60 with
  | none => simp [hq] at hs
  | some i =>
    have hi : i.size = 2 := by simpa [hq] using hs
    simp at hl hst
    simp [Builtin.copy_, run_underlying hu, Builtin.lenOf, Builtin.firstCells, sizeOf, typeInfo, hq, hi, hl, hst]

theorem wpList_copy1 {w : World} {ops : Array Oper} {rest : List Oper} {o : Oper} {a : Act} {Q : Exit → Act → World → Prop} (hgd : o.guard = none) (d s : Operand)
    (ho : o.op = .call { callee := .builtin .copy, args := #[d, s], argTypes := #[23, 23] }) (g0 g1 : Nat) (p q x y : Value) (t : TypeId)
    (hd : a.eval d = .slice (some ⟨g1, 0, none⟩) 1 1) (hs : a.eval s = .slice (some ⟨g0, 0, none⟩) 1 1) (hx : x.oneCell' = true) (hy : y.oneCell' = true) (hg : w.heap[g1]? = some (.cells #[p, q] t (0, 0)))
    (h0 : w.cell? ⟨g0, 0, none⟩ = some x) (h1 : w.cell? ⟨g0, 1, none⟩ = some y)
    (h : wpList Try.prog ops Q rest (a.put o.dst (goInt 1)) (w.setRow g1 #[x, y])) : wpList Try.prog ops Q (o :: rest) a w := by
  refine wpList_plain hgd fun K hK => ?_
  have hrun := run_copy1 w o.type g0 g1 p q x y t hx hy hg h0 h1
  unfold Oper.wp
  simp [execOp, ho, resolve, invoke, builtin, hd, hs, hrun, Result.andThen]
  exact hK _ _ h

set_option maxRecDepth 100000 in
set_option maxHeartbeats 1000000 in
theorem repeat_one (g : Nat) (w : World) (h0 : w.cell? ⟨g, 0, none⟩ = some (.int .i64 0)) (h1 : w.cell? ⟨g, 1, none⟩ = some (.bool true)) (lg : g < w.heap.size) :
    Calls Try.prog 54 #[.slice (some ⟨g, 0, none⟩) 1 1, .int .i64 1] w fun e w' => e = .returned (.slice (some ⟨w.heap.size, 0, none⟩) 1 1) ∧ w' = w.alloc (.cells #[.int .i64 0, .bool true] 60) := by
  have hmk : ∀ w, (Instr.makeSlice 23 (.int .i64 1) (.int .i64 1)).run Try.prog w = .ok (.slice (some ⟨w.heap.size, 0, none⟩) 1 1) (w.alloc (.cells #[.int .i64 0, .bool false] 60)) := fun _ => by kernel_rfl
  have HMK := Lib.hid hmk
  have hn := heap_alloc_new w (.cells #[.int .i64 0, .bool false] 60)
  have HN := Lib.hid hn
  have k0 : (w.alloc (.cells #[.int .i64 0, .bool false] 60)).cell? ⟨g, 0, none⟩ = some (.int .i64 0) := (World.cell?_alloc_lt _ _ _ lg).trans h0
  have k1 : (w.alloc (.cells #[.int .i64 0, .bool false] 60)).cell? ⟨g, 1, none⟩ = some (.bool true) := (World.cell?_alloc_lt _ _ _ lg).trans h1
  have K0 := Lib.hid k0
  have K1 := Lib.hid k1
  clear hn k0 k1 h0 h1
  have hcp := run_copy1 _ 3 g w.heap.size _ _ _ _ 60 rfl rfl HN.out K0.out K1.out
  rw [new_set] at hcp
  go_enter Try.func54, Try.ntmps54
  go_wp2_with (go_at_call 79; refine (mul_one _).mono ?_; rintro e w' ⟨rfl, rfl⟩)
  go_loopw [8] (fun ii wr => ii = .int .i64 1 ∧ wr = w.alloc (.cells #[.int .i64 0, .bool true] 60)) (fun _ _ => 0)
  case atStart => exact ⟨rfl, rfl⟩
  case round =>
    obtain ⟨rfl, rfl⟩ := hrel
    go_wp2
    go_ret
    exact ⟨rfl, rfl⟩

set_option maxRecDepth 100000 in
set_option maxHeartbeats 1000000 in
theorem pnew_one (w : World) : Calls Try.prog 16 #[.int .i64 1, .int .i64 1, .bool false] w (RPost (nw 1 1 false) w) := by
  have h52 : ∀ w, Calls Try.prog 52 #[.int .i64 1, .int .i64 6] w fun e w' => e = .returned (.bool true) ∧ w = w' := fun w => by
    have h := num_yes 1 6 w (by omega) (by omega)
    have e1 : ((1 : Nat) : Int) = 1 := rfl
    have e6 : ((6 : Nat) : Int) = 6 := rfl
    rw [e1, e6] at h
    exact h
  have h53 : ∀ w, Calls Try.prog 53 #[.int .i64 1] w fun e w' => e = .returned (.bool true) ∧ w = w' := fun w => by
    have h := bits_yes 1 w (by omega)
    have e1 : ((1 : Nat) : Int) = 1 := rfl
    rw [e1] at h
    exact h
  have H52 := Lib.hid h52
  have H53 := Lib.hid h53
  clear h52 h53
  have A1 := Lib.hid (heap_alloc_new w (.cells zC 25))
  have HB0 := Lib.hid (box_below w (.cells zC 25))
  have hs0 : (w.alloc (.cells zC 25)).heap.size = w.heap.size + 1 := by simp
  have HS0 := Lib.hid hs0
  clear hs0
  go_enter Try.func16, Try.ntmps16
  go_wp2_with fail
  refine (H52.out _).mono ?_
  rintro e w' ⟨rfl, rfl⟩
  unfold zC at A1 HB0 HS0
  generalize w.alloc (.cells #[.bool false, .slice none 0 0, .slice none 0 0, .slice none 0 0] 25) = W0 at *
  have r0 := cell_of_row _ _ 0 _ _ _ (heap_alloc_new W0 (.cells #[.int .i64 0, .bool true] 60))
  have r1 := cell_of_row _ _ 1 _ _ _ (heap_alloc_new W0 (.cells #[.int .i64 0, .bool true] 60))
  have hrp := repeat_one W0.heap.size (W0.alloc (.cells #[.int .i64 0, .bool true] 60)) r0 r1 (by simp)
  have HRP := Lib.hid hrp
  clear r0 r1 hrp
  go_wp2_with fail
  refine (H53.out _).mono ?_
  rintro e w' ⟨rfl, rfl⟩
  go_wp2_with fail
  refine HRP.out.mono ?_
  rintro e w2 ⟨rfl, hw2⟩
  have hs1 : (W0.alloc (.cells #[.int .i64 0, .bool true] 60)).heap.size = w.heap.size + 2 := by simp; rw [HS0.out]
  have hl2 : w2.heap.size = w.heap.size + 3 := by rw [hw2]; simp; rw [HS0.out]
  have hrow : w2.heap[w.heap.size + 2]? = some (.cells #[.int .i64 0, .bool true] 60 (0, 0)) := by
    rw [hw2, ← hs1]
    exact heap_alloc_new _ _
  have hA2 : w2.heap[w.heap.size]? = some (.cells zC 25 (0, 0)) := by
    rw [hw2]
    exact (heap_alloc_old _ _ (by rw [hs1]; omega)).trans ((heap_alloc_old _ _ (by rw [HS0.out]; omega)).trans A1.out)
  have hb2 : Below w.heap.size w w2 := by
    rw [hw2]
    exact (HB0.out.alloc (by rw [HS0.out]; omega) _).alloc (by rw [hs1]; omega) _
  have HROW := Lib.hid ((heap_alloc_old w2 (.cells #[.int .i64 1] 3) (row_lt hrow)).trans hrow)
  have HZ := Lib.hid ((heap_alloc_old w2 (.cells #[.int .i64 1] 3) (row_lt hA2)).trans hA2)
  have HN := Lib.hid (heap_alloc_new w2 (.cells #[.int .i64 1] 3))
  have HB2 := Lib.hid (hb2.trans ((box_below w2 (.cells #[.int .i64 1] 3)).mono hb2.size))
  have HS2 := Lib.hid hl2
  rw [hs1]
  clear hw2 hs1 hrow hA2 hb2 hl2
  obtain ⟨j0, j1, j2, j3, j4, j5, j6, j7⟩ := zCells HZ.out
  go_wp2_with fail
  rw [set4row HZ.out rfl]
  have h1 : Row (w2.alloc (.cells #[.int .i64 1] 3)) (w.heap.size + 1) 1 (some ⟨w2.heap.size, 0, none⟩) 1 (iv [1]) := (lits_row w2 w2.heap.size rfl [1] #[.int .i64 1] rfl 3).base (by rw [HS2.out]; omega)
  have h2 : Row (w2.alloc (.cells #[.int .i64 1] 3)) (w.heap.size + 1) 2 (some ⟨w.heap.size + 2, 0, none⟩) 1 (rv [(0, true)]) := ⟨rfl, fun _ => ⟨w.heap.size + 2, 0, rfl, by omega, row_lt HROW.out, fun j u hj => by
    rw [Nat.zero_add, cell_of_row _ _ _ _ _ _ HROW.out]
    have e : (#[.int .i64 0, .bool true] : Array Value).toList = rv [(0, true)] := rfl
    rw [← e] at hj
    simpa using hj⟩⟩
  have hc : CL (w2.alloc (.cells #[.int .i64 1] 3)) (w.heap.size + 1) (nw 1 1 false) ⟨some ⟨w2.heap.size, 0, none⟩, 1, some ⟨w.heap.size + 2, 0, none⟩, 1, none, 0⟩ := ⟨h1, h2, ⟨rfl, fun h => absurd h (by decide)⟩⟩
  clear h1 h2
  refine bodyPost_ret (v := .tuple #[.agg (cv (nw 1 1 false) ⟨some ⟨w2.heap.size, 0, none⟩, 1, some ⟨w.heap.size + 2, 0, none⟩, 1, none, 0⟩), .int .i64 0]) (results_cell_row2 (fn := Try.f16) (p := 6) (u := 7) rfl _ _ w.heap.size 25 _ (0, 0) _ rfl (setRow_heap _ _ _ _ _ _ HZ.out) Try.underlying25 rfl (info25 _ _)) rfl ⟨_, rfl, ?_, ?_⟩
  · exact (hc.set (by omega) _).base (by omega)
  · exact below_setRow HB2.out (Nat.le_refl _) _

end Go.Proofs.Ytamcjhibdcbdnaa.Cl
