import Derived.Test.YtlmpbfijgnkpkaaOwA
import Derived.Test.YtlmpbfijgnkpkaaDiK
namespace Go.Proofs.Ytlmpbfijgnkpkaa.Di
open Go.RowKit
open Go.Proofs.Ytlmpbfijgnkpkaa.Tp
set_option linter.unusedVariables false

/-- Stewards, as cells. -/
def sc (x : Sw) : Array Value := #[.int .i64 (x.t : Int), .int .i64 (x.s : Int), .int .i64 x.w]
def sv : List Sw → List Value
  | [] => []
  | x :: l => [.int .i64 (x.t : Int), .int .i64 (x.s : Int), .int .i64 x.w] ++ sv l
theorem sv_len : ∀ l, (sv l).length = l.length * 3
  | [] => rfl
  | x :: l => by
    have := sv_len l
    simp [sv, this]
    omega
theorem sv_snoc : ∀ (l : List Sw) (x : Sw), sv (l ++ [x]) = sv l ++ [.int .i64 (x.t : Int), .int .i64 (x.s : Int), .int .i64 x.w]
  | [], x => by simp [sv]
  | y :: l, x => by simp [sv, sv_snoc l x]
theorem sv_at : ∀ (l : List Sw) (i : Nat), i < l.length → (sv l)[i * 3]? = some (.int .i64 (((l.getD i s0).t : Nat) : Int)) ∧ (sv l)[i * 3 + 1]? = some (.int .i64 (((l.getD i s0).s : Nat) : Int)) ∧ (sv l)[i * 3 + 2]? = some (.int .i64 (l.getD i s0).w)
  | [], i, h => absurd h (by simp)
  | x :: l, 0, h => ⟨rfl, rfl, rfl⟩
  | x :: l, i + 1, h => by
    have ih := sv_at l i (by simpa using h)
    have e1 : (i + 1) * 3 = (i * 3) + 1 + 1 + 1 := by omega
    simp only [sv, e1]
    exact ih
theorem sv_one (l : List Sw) : ∀ u ∈ sv l, u.oneCell' = true := by
  induction l with
  | nil => intro u hu; simp [sv] at hu
  | cons x l ih =>
    intro u hu
    rcases List.mem_append.1 hu with h | h
    · simp at h
      rcases h with rfl | rfl | rfl <;> rfl
    · exact ih u h
theorem Row.sw {w : World} {B n : Nat} {A : Option Addr} {l : List Sw} (h : Row w B 3 A n (sv l)) {i : Nat} (hi : i < n) : ∃ b off, A = some ⟨b, off, none⟩ ∧ B ≤ b ∧ b < w.heap.size ∧ w.cell? ⟨b, off + i * 3, none⟩ = some (.int .i64 (((sg l i).t : Nat) : Int)) ∧ w.cell? ⟨b, off + i * 3 + 1, none⟩ = some (.int .i64 (((sg l i).s : Nat) : Int)) ∧ w.cell? ⟨b, off + i * 3 + 2, none⟩ = some (.int .i64 (sg l i).w) := by
  obtain ⟨b, off, e, hB, hlt, hc⟩ := h.mem (by omega)
  have hl := h.len
  rw [sv_len] at hl
  obtain ⟨a1, a2, a3⟩ := sv_at l i (by omega)
  exact ⟨b, off, e, hB, hlt, hc _ _ a1, hc _ _ a2, hc _ _ a3⟩
theorem scCells {w : World} {x : Sw} {t : TypeId} {o : Nat × Nat} {g : Nat} (h : w.heap[g]? = some (.cells (sc x) t o)) :
    w.cell? ⟨g, 0, none⟩ = some (.int .i64 (x.t : Int)) ∧ w.cell? ⟨g, 1, none⟩ = some (.int .i64 (x.s : Int)) ∧ w.cell? ⟨g, 2, none⟩ = some (.int .i64 x.w) := by
  refine ⟨?_, ?_, ?_⟩ <;> rw [cell_of_row _ _ _ _ _ _ h] <;> rfl
theorem sc_one (x : Sw) : (sc x).all (·.oneCell') = true := by simp [sc, Value.oneCell']
theorem info35 (x : Sw) : (Try.prog.info? 35).map (·.size) = some (sc x).size := by
  have h : (Try.prog.info? 35).map (·.size) = some 3 := by kernel_rfl
  exact h
theorem zinfo35 : (Try.prog.info? 35).map (fun i => (i.zero, i.size, i.bytes)) = some (some (.agg #[.int .i64 0, .int .i64 0, .int .i64 0]), 3, 24) := by kernel_rfl

set_option maxRecDepth 100000 in
set_option maxHeartbeats 1000000 in
theorem steward_any (l : List Sw) (p t : Int) (A : Option Addr) (cc : Nat) (w : World) (h : Row w 0 3 A l.length (sv l)) (hn : l.length ≤ 1000) :
    Calls Try.prog 34 #[.slice A l.length cc, .int .i64 p, .int .i64 t] w fun e w' => e = .returned (.int .i64 (stw l p t)) ∧ Below w.heap.size w w' := by
  have H := Lib.hid h
  clear h
  have HV := Lib.hid (show stw l p t = swN l p t l.length from rfl)
  have HS := Lib.hid (show ∀ k, swN l p t (k + 1) = if swB (sg l k) p t then (sg l k).w else swN l p t k from fun k => rfl)
  have H0 := Lib.hid (show swN l p t 0 = -1 from rfl)
  generalize swN l p t = F at *
  generalize stw l p t = R at *
  go_enter Try.func34, Try.ntmps34
  go_wp2_with fail
  go_loopw [7, 12] (fun ov ii wr => ∃ k : Nat, k ≤ l.length ∧ ii = .int .i64 (k : Int) ∧ ov = .int .i64 (F k) ∧ Below w.heap.size w wr) (fun _ ii _ => l.length - (intOf ii).toNat)
  case atStart => exact ⟨0, by omega, rfl, by rw [H0.out], Below.refl _ _⟩
  case round =>
    obtain ⟨k, hk, rfl, rfl, hbl⟩ := hrel
    have HBL := Lib.hid hbl
    clear hbl
    by_cases hlt : k < l.length
    · obtain ⟨b, off, hA, -, hbk, y0, y1, y2⟩ := (H.out.below HBL.out).sw hlt
      have HSK := Lib.hid (HS.out k)
      generalize sg l k = x at *
      subst hA
      generalize F k = v at *
      have i0 : (0 : Int) ≤ (k : Int) := by omega
      have i1 : (k : Int) < (l.length : Int) := by omega
      have HBX := Lib.hid (HBL.out.trans ((box_below wr (.cells (sc x) 35)).mono HBL.out.size))
      obtain ⟨n0, n1, n2⟩ := scCells (heap_alloc_new wr (.cells (sc x) 35))
      unfold sc at HBX n0 n1 n2
      by_cases e1 : (x.s : Int) = p
      · have k1 : ((x.s : Int) == p) = true := by rw [e1]; simp
        by_cases e2 : (x.t : Int) ≤ t
        · have k2 : decide ((x.t : Int) ≤ t) = true := decide_eq_true e2
          have HB2 := Lib.hid (show swB x p t = true by unfold swB; rw [k1, k2]; rfl)
          clear e1 e2
          go_wp2_with fail
          exact ⟨⟨k + 1, by omega, by go_num, by rw [HSK.out, if_pos HB2.out], HBX.out⟩, by simp [intOf]; omega⟩
        · have k2 : decide ((x.t : Int) ≤ t) = false := decide_eq_false e2
          have HB2 := Lib.hid (show ¬ swB x p t = true by unfold swB; rw [k1, k2]; decide)
          clear e1 e2
          go_wp2_with fail
          exact ⟨⟨k + 1, by omega, by go_num, by rw [HSK.out, if_neg HB2.out], HBX.out⟩, by simp [intOf]; omega⟩
      · have k1 : ((x.s : Int) == p) = false := beq_eq_false_iff_ne.2 e1
        have HB2 := Lib.hid (show ¬ swB x p t = true by unfold swB; rw [k1]; simp)
        clear e1
        go_wp2_with fail
        exact ⟨⟨k + 1, by omega, by go_num, by rw [HSK.out, if_neg HB2.out], HBX.out⟩, by simp [intOf]; omega⟩
    · obtain rfl : k = l.length := by omega
      rw [← HV.out]
      go_wp2_with fail
      go_ret
      exact ⟨rfl, HBL.out⟩

set_option maxRecDepth 100000 in
set_option maxHeartbeats 400000 in
theorem exists30_any (d : Dy) (v : Vd) (p : Nat) (w : World) :
    Calls Try.prog 30 #[.agg (gd d v), .int .i64 (p : Int)] w fun e w' => e = .returned (.bool (decide (p < d.k.length))) ∧ Below w.heap.size w w' := by
  have HB0 := Lib.hid (box_below w (.cells (gd d v) 25))
  have R0 := Lib.hid (heap_alloc_new w (.cells (gd d v) 25))
  obtain ⟨g0, g1⟩ := gdCells R0.out
  have p0 : (0 : Int) ≤ (p : Int) := by omega
  go_enter Try.func30, Try.ntmps30
  go_wp2_with fail
  go_ret
  exact ⟨by first | rfl | simp, HB0.out⟩

end Go.Proofs.Ytlmpbfijgnkpkaa.Di
