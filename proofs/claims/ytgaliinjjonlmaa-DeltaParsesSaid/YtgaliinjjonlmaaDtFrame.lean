import Derived.Test.YtgaliinjjonlmaaDtMake
import Derived.ProofKit
import Derived.OpenShut
import Derived.ShutString
import Derived.ChangeOld
import Derived.Lib.SlBytesConst
import Derived.Lib.SmallJoins
namespace Go.Proofs.Ytgaliinjjonlmaa.Dt
open Go.RowKit
open Go.Proofs.Ytgaliinjjonlmaa.Tp
set_option linter.unusedVariables false

theorem own : ownKnob Try.prog.godebug = none := by kernel_rfl
theorem laidOut : laidOutB Try.prog = true := by kernel_rfl

def strB (bs : List Nat) : ByteArray := strOfNums (bs.map fun b : Nat => (b : Int))

theorem conv_by {w : World} {v : Value} {bs : List Nat} (h : By w v bs) : (convert 23 9 v).run Try.prog w = .ok (.string (strB bs)) w := by
  rcases h.2 with ⟨rfl, rfl⟩ | ⟨b, off, c, rfl, _, _, _, h4⟩
  · kernel_rfl
  · exact run_convert_bytes_arg w 23 5 Try.underlying23 Try.underlying5 b off bs.length c _ (by simp) (fun i hi => by rw [h4 i hi]; simp [hi]) 9 Try.underlying9

def exB : List Nat := [97, 98, 99]
def exO : List O := [⟨1, 2, []⟩, ⟨0, 0, [120]⟩]
def exV (g : Nat) : List Value := [.slice none 0 0, .slice (some ⟨g, 0, none⟩) 1 1]

def exW (w : World) : World := ((w.alloc (.cells #[.int .u8 97, .int .u8 98, .int .u8 99] 5 (3, 4))).alloc (.cells #[.int .u8 120] 5 (1, 2))).alloc (.cells #[.int .i64 1, .int .i64 2, .slice none 0 0, .int .i64 0, .int .i64 0, .slice (some ⟨w.heap.size + 1, 0, none⟩) 1 1] 54)

theorem exB_by (w : World) : By (exW w) (.slice (some ⟨w.heap.size, 0, none⟩) 3 3) exB := by
  have h : (exW w).heap[w.heap.size]? = some (.cells #[.int .u8 97, .int .u8 98, .int .u8 99] 5 (3, 4)) := by
    unfold exW
    rw [heap_alloc_old _ _ (by simp; omega), heap_alloc_old _ _ (by simp)]
    exact heap_alloc_new w _
  refine ⟨by decide, .inr ⟨w.heap.size, 0, 3, rfl, by decide, by decide, row_lt h, fun j hj => ?_⟩⟩
  have hj : j < 3 := hj
  rcases (by omega : j = 0 ∨ j = 1 ∨ j = 2) with rfl | rfl | rfl <;> rw [cell_of_row _ _ _ _ _ _ h] <;> rfl

theorem exO_lies (w : World) : OLies (exW w) (some ⟨w.heap.size + 2, 0, none⟩) 2 exO (exV (w.heap.size + 1)) := by
  have h2 : (exW w).heap[w.heap.size + 2]? = some (.cells #[.int .i64 1, .int .i64 2, .slice none 0 0, .int .i64 0, .int .i64 0, .slice (some ⟨w.heap.size + 1, 0, none⟩) 1 1] 54 (0, 0)) := by
    have := heap_alloc_new ((w.alloc (.cells #[.int .u8 97, .int .u8 98, .int .u8 99] 5 (3, 4))).alloc (.cells #[.int .u8 120] 5 (1, 2))) (.cells #[.int .i64 1, .int .i64 2, .slice none 0 0, .int .i64 0, .int .i64 0, .slice (some ⟨w.heap.size + 1, 0, none⟩) 1 1] 54)
    have hs : ((w.alloc (.cells #[.int .u8 97, .int .u8 98, .int .u8 99] 5 (3, 4))).alloc (.cells #[.int .u8 120] 5 (1, 2))).heap.size = w.heap.size + 2 := by simp
    rw [hs] at this
    exact this
  have h1 : (exW w).heap[w.heap.size + 1]? = some (.cells #[.int .u8 120] 5 (1, 2)) := by
    unfold exW
    rw [heap_alloc_old _ _ (by simp)]
    exact heap_alloc2_new w _ _
  refine ⟨rfl, rfl, fun _ => ⟨w.heap.size + 2, 0, rfl, row_lt h2, fun j hj => ?_⟩, fun j hj => ?_⟩
  · rcases (by omega : j = 0 ∨ j = 1) with rfl | rfl <;> refine ⟨?_, ?_, ?_⟩ <;> rw [cell_of_row _ _ _ _ _ _ h2] <;> rfl
  · rcases (by omega : j = 0 ∨ j = 1) with rfl | rfl
    · exact ⟨by decide, .inl ⟨rfl, rfl⟩⟩
    · refine ⟨by decide, .inr ⟨w.heap.size + 1, 0, 1, rfl, by decide, by decide, row_lt h1, fun j hj => ?_⟩⟩
      have hj : j < 1 := hj
      obtain rfl : j = 0 := by omega
      rw [cell_of_row _ _ _ _ _ _ h1]
      rfl

set_option maxRecDepth 100000 in
set_option maxHeartbeats 1000000 in
theorem awake_any (w : World) : Calls Try.prog 23 #[] w fun e w' => e = .returned (.bool true) ∧ Below w.heap.size w w' := by
  have hv : ∀ j, j < 2 → VO 3 (exO.getD j o0) ((exV (w.heap.size + 1)).getD j undef) := by
    intro j hj
    rcases (by omega : j = 0 ∨ j = 1) with rfl | rfl
    · exact .inr ⟨by decide, rfl, by decide, by decide⟩
    · exact .inl ⟨rfl, rfl, _, 1, 1, rfl, by decide⟩
  have hap := apply_any (some ⟨w.heap.size + 2, 0, none⟩) (some ⟨w.heap.size, 0, none⟩) 2 2 3 3 exB exO (exV (w.heap.size + 1)) (exW w) (exO_lies w) hv (by decide) (by omega) (by omega) (exB_by w) rfl
  have e : apl exB exO 2 = [98, 99, 120] := by decide
  rw [e] at hap
  have HAP := Lib.hid hap
  have HB : Hid (Below w.heap.size w (exW w)) := Lib.hid ((((Below.refl _ w).alloc (Nat.le_refl _) _).alloc (by simp) _).alloc (by simp; omega) _)
  have hs : strB [98, 99, 120] = { data := #[98, 99, 120] } := by kernel_rfl
  have HS := Lib.hid hs
  clear hv hap e hs
  have k1 : (convert 23 23 (.slice (some ⟨w.heap.size, 0, none⟩) 3 3)).run Try.prog (w.alloc (.cells #[.int .u8 97, .int .u8 98, .int .u8 99] 5)) = .ok (.slice (some ⟨w.heap.size, 0, none⟩) 3 3) (w.alloc (.cells #[.int .u8 97, .int .u8 98, .int .u8 99] 5 (3, 4))) := Lib.run_convert_bytes_const w 23 5 _ 3 3 Try.underlying23 Try.underlying5
  have k2 : (convert 23 23 (.slice (some ⟨w.heap.size + 1, 0, none⟩) 1 1)).run Try.prog ((w.alloc (.cells #[.int .u8 97, .int .u8 98, .int .u8 99] 5 (3, 4))).alloc (.cells #[.int .u8 120] 5)) = .ok (.slice (some ⟨w.heap.size + 1, 0, none⟩) 1 1) ((w.alloc (.cells #[.int .u8 97, .int .u8 98, .int .u8 99] 5 (3, 4))).alloc (.cells #[.int .u8 120] 5 (1, 2))) := by
    have := Lib.run_convert_bytes_const (P := Try.prog) (w.alloc (.cells #[.int .u8 97, .int .u8 98, .int .u8 99] 5 (3, 4))) 23 5 #[.int .u8 120] 1 1 Try.underlying23 Try.underlying5
    have hs : (w.alloc (.cells #[.int .u8 97, .int .u8 98, .int .u8 99] 5 (3, 4))).heap.size = w.heap.size + 1 := by simp
    rw [hs] at this
    exact this
  go_enter Try.func23, Try.ntmps23
  go_wp2_with fail
  refine HAP.out.mono ?_
  rintro e w1 ⟨v, rfl, hrow, hb1⟩
  have hconv := conv_by (by_own hrow rfl (by decide)).1
  rw [HS.out] at hconv
  have HB1 := Lib.hid (HB.out.trans (hb1.mono HB.out.size))
  clear hrow hb1
  go_wp2_with fail
  go_ret
  exact ⟨rfl, HB1.out⟩

/-- A slice of integers that came in: nil, or a row of 'cap' cells. -/
def IsRow (k : IntKind) (w : World) (a : Option Addr) (len cap : Nat) (zs : List Int) : Prop :=
  (a = none ∧ len = 0 ∧ cap = 0 ∧ zs = []) ∨
  ∃ x, a = some x ∧ len ≤ cap ∧ cap ≤ maxLen ∧ zs.length = cap ∧ (∀ i, i < zs.length → w.cell? (x.add i) = some (.int k (zs.getD i 0))) ∧ ∀ n ∈ zs, (Lit.int k n).wf = true

theorem IsRow.at_ {k : IntKind} {w : World} {a : Option Addr} {len cap : Nat} {zs : List Int} (h : IsRow k w a len cap zs) :
    len ≤ maxLen ∧ (0 < len → ∃ b off, a = some ⟨b, off, none⟩ ∧ b < w.heap.size ∧ ∀ j, j < len → w.cell? ⟨b, off + j, none⟩ = some (.int k (zs.getD j 0))) := by
  rcases h with ⟨rfl, rfl, rfl, rfl⟩ | ⟨x, rfl, hl, hm, hz, hc, hw⟩
  · exact ⟨by unfold maxLen; omega, fun h => absurd h (by omega)⟩
  · refine ⟨by omega, fun h0 => ?_⟩
    obtain ⟨b, off, spot⟩ := x
    have hc0 := hc 0 (by omega)
    have hspot : spot = none := by simpa [Addr.add] using World.cell?_spot hc0
    subst hspot
    have hlt : b < w.heap.size := by simpa [Addr.add] using block_lt_of_cell hc0
    refine ⟨b, off, rfl, hlt, fun j hj => ?_⟩
    have hj := hc j (by omega)
    have e : (⟨b, off, none⟩ : Addr).add j = ⟨b, off + j, none⟩ := by unfold Addr.add; split <;> simp_all
    rwa [e] at hj

theorem tape_new {w : World} {a : Option Addr} {len cap : Nat} {zs : List Int} (h : IsRow .i64 w a len cap zs) : TapeOk (w.alloc (.cells #[.slice a len cap, .int .i64 0] 27)) w.heap.size := by
  obtain ⟨hm, hc⟩ := h.at_
  unfold maxLen at hm
  refine ⟨a, len, cap, fun j => zs.getD j 0, 0, heap_alloc_new _ _, hm, by omega, fun h0 => ?_⟩
  obtain ⟨b, off, e, hlt, hcell⟩ := hc h0
  exact ⟨b, off, e, hlt, fun j hj => (World.cell?_alloc_lt w _ _ hlt).trans (hcell j hj)⟩

/-- What the maker of bytes hands back, at every world behind that only the tape has changed. -/
theorem made_by {T N : Nat} {w w1 : World} {v : Value} (h : BRel T w N v w1) (hT : T < w.heap.size) : ∃ bs A c, v = .slice A N c ∧ bs.length = N ∧ By w1 (.slice A N c) bs ∧ (∀ a, A = some a → w.heap.size ≤ a.block) ∧ w.grownBy w1 (some T) ∧ TapeOk w1 T := by
  obtain ⟨bs, hl, hb, hrow, hg, ht⟩ := h
  obtain ⟨hby, hfar⟩ := by_own hrow hl hb
  obtain ⟨A, c, e⟩ := hby.form
  rw [hl] at e
  subst e
  refine ⟨bs, A, c, rfl, hl, hby, fun a e => ?_, hg, ht⟩
  obtain ⟨b', off', sp⟩ := a
  subst e
  rcases hby.2 with ⟨e, _⟩ | ⟨b2, off2, c2, e, _⟩
  · cases e
  · injection e with e1 _ _
    injection e1 with e2
    injection e2 with e3 e4 e5
    subst e5
    exact hfar b' off' N c rfl

theorem By.tape {T N c : Nat} {A : Option Addr} {w w1 : World} {bs : List Nat} (h : By w (.slice A N c) bs) (hf : ∀ a, A = some a → T < a.block) (hg : w.grownBy w1 (some T)) : By w1 (.slice A N c) bs :=
  h.grown hg (fun b off n c e e2 => by
    injection e with e1 _ _
    have := hf _ e1
    have e3 := Option.some.inj e2
    simp only at this
    omega)

end Go.Proofs.Ytgaliinjjonlmaa.Dt
