import Derived.Test.YtfdmneceecaocaaCoG
import Derived.Test.YtfdmneceecaocaaCoH
namespace Go.Proofs.Ytfdmneceecaocaa.Di
open Go.RowKit
open Go.Proofs.Ytfdmneceecaocaa.Tp
set_option linter.unusedVariables false
set_option linter.unusedSimpArgs false

theorem sv_at (L : List Sy) : ∀ j, j < L.length → (sv L)[j * 3]? = some (.int .i64 (sy L j).p) ∧ (sv L)[j * 3 + 1]? = some (.int .i64 (sy L j).f) ∧ (sv L)[j * 3 + 2]? = some (.int .i64 (sy L j).u) := by
  induction L with
  | nil => intro j h; simp at h
  | cons x L ih =>
    intro j h
    have e : sv (x :: L) = [.int .i64 x.p, .int .i64 x.f, .int .i64 x.u] ++ sv L := by simp [sv]
    rw [e]
    cases j with
    | zero => exact ⟨rfl, rfl, rfl⟩
    | succ j =>
      obtain ⟨h1, h2, h3⟩ := ih j (by simpa using h)
      have e2 : sy (x :: L) (j + 1) = sy L j := rfl
      rw [e2]
      refine ⟨?_, ?_, ?_⟩
      · rw [List.getElem?_append_right (by simp; omega), ← h1]; congr 1; simp; omega
      · rw [List.getElem?_append_right (by simp; omega), ← h2]; congr 1; simp; omega
      · rw [List.getElem?_append_right (by simp; omega), ← h3]; congr 1; simp; omega
theorem Row.stay {w : World} {B n : Nat} {A : Option Addr} {L : List Sy} (h : Row w B 3 A n (sv L)) {i : Nat} (hi : i < n) : ∃ b off, A = some ⟨b, off, none⟩ ∧ w.cell? ⟨b, off + i * 3, none⟩ = some (.int .i64 (sy L i).p) ∧ w.cell? ⟨b, off + i * 3 + 1, none⟩ = some (.int .i64 (sy L i).f) ∧ w.cell? ⟨b, off + i * 3 + 2, none⟩ = some (.int .i64 (sy L i).u) := by
  obtain ⟨b, off, e, hB, hlt, hc⟩ := h.mem (by omega)
  have hl := h.len
  rw [sv_len] at hl
  obtain ⟨a1, a2, a3⟩ := sv_at L i (by omega)
  exact ⟨b, off, e, hc _ _ a1, hc _ _ a2, hc _ _ a3⟩
set_option maxRecDepth 100000 in
set_option maxHeartbeats 1000000 in
theorem stays_same (A A' : Option Addr) (n cc cc' : Nat) (L : List Sy) (w : World) (h1 : Row w 0 3 A n (sv L)) (h2 : Row w 0 3 A' n (sv L)) (hn : n ≤ 1000) :
    Calls Try.prog 37 #[.slice A n cc, .slice A' n cc'] w fun e w' => e = .returned (.bool true) ∧ Below w.heap.size w w' := by
  have H1 := Lib.hid h1
  have H2 := Lib.hid h2
  clear h1 h2
  go_enter Try.func37, Try.ntmps37
  go_wp2_with fail
  go_loopw [13] (fun ii wr => ∃ k : Nat, k ≤ n ∧ ii = .int .i64 k ∧ ∃ q, wr = w.drewN q) (fun ii _ => n - (intOf ii).toNat)
  case atStart => exact ⟨0, by omega, rfl, 0, rfl⟩
  case round =>
    obtain ⟨k, hk, rfl, q, rfl⟩ := hrel
    by_cases hlt : k < n
    · obtain ⟨b, off, hA, d0, d1, d2⟩ := H1.out.stay hlt
      obtain ⟨b', off', hA', d0', d1', d2'⟩ := H2.out.stay hlt
      subst hA hA'
      have i0 : (0 : Int) ≤ (k : Int) := by omega
      have i1 : (k : Int) < (n : Int) := by omega
      generalize sy L k = x at *
      go_wp2_with fail
      go_quiet (fail)
      go_wp2_with fail
      exact ⟨⟨k + 1, by omega, by go_num, _, rfl⟩, by simp [intOf]; omega⟩
    · obtain rfl : k = n := by omega
      go_wp2_with fail
      go_ret
      exact ⟨rfl, ⟨rfl, rfl, rfl, Nat.le_refl _, fun _ _ => rfl⟩⟩
set_option maxRecDepth 100000 in
set_option maxHeartbeats 1000000 in
theorem happened_all (a : Es) (v : Ve) (t : Int) (w : World) (h : EL w 0 a v) (hm : a.e.length ≤ 120) (ht : ∀ j, j < a.e.length → (ag a.e j).t ≤ t) :
    Calls Try.prog 61 #[.agg (ge a v), .int .i64 t] w fun e w' => e = .returned (.int .i64 (a.e.length : Int)) ∧ Below w.heap.size w w' := by
  obtain ⟨A, vc⟩ := v
  have HE := Lib.hid h
  have HT := Lib.hid ht
  have hb := box_below w (.cells (ge a ⟨A, vc⟩) 25)
  have HB0 := Lib.hid hb
  have R0 := heap_alloc_new w (.cells (ge a ⟨A, vc⟩) 25)
  obtain ⟨g0, g1⟩ := geCells R0
  have HEX := Lib.hid (Row.below h hb)
  clear h ht hb R0
  go_enter Try.func61, Try.ntmps61
  go_wp2_with fail
  go_loopw [5] (fun ii wr => ∃ k : Nat, k ≤ a.e.length ∧ ii = .int .i64 (k : Int) ∧ wr = w.alloc (.cells (ge a ⟨A, vc⟩) 25)) (fun ii _ => a.e.length - (intOf ii).toNat)
  case atStart => exact ⟨0, by omega, rfl, rfl⟩
  case round =>
    obtain ⟨k, hk, rfl, rfl⟩ := hrel
    by_cases hlt : k < a.e.length
    · obtain ⟨b, off, hA, -, hbk, hac⟩ := HEX.out.ac hlt
      have hA : A = some ⟨b, off, none⟩ := hA
      subst hA
      obtain ⟨y0, -⟩ := hac
      have dk : decide ((k : Int) < (a.e.length : Int)) = true := decide_eq_true (by omega)
      have dt : decide ((ag a.e k).t ≤ t) = true := decide_eq_true (HT.out k hlt)
      have i0 : (0 : Int) ≤ (k : Int) := by omega
      have i1 : (k : Int) < (a.e.length : Int) := by omega
      generalize ag a.e k = x at *
      go_wp2_with fail
      exact ⟨⟨k + 1, by omega, by go_num, by first | rfl | trivial⟩, by simp [intOf]; omega⟩
    · obtain rfl : k = a.e.length := by omega
      have dk : decide ((a.e.length : Int) < (a.e.length : Int)) = false := decide_eq_false (by omega)
      go_wp2_with fail
      go_ret
      exact ⟨by first | rfl | simp, HB0.out⟩

end Go.Proofs.Ytfdmneceecaocaa.Di
