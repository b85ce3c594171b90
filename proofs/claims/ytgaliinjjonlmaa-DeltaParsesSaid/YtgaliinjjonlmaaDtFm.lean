import Derived.Test.YtgaliinjjonlmaaDtOps
import Derived.OneCell
namespace Go.Proofs.Ytgaliinjjonlmaa.Dt
open Go.RowKit
open Go.Proofs.Ytgaliinjjonlmaa.Tp
set_option linter.unusedVariables false

set_option maxRecDepth 100000 in
set_option maxHeartbeats 400000 in
theorem cpy_no (A : Option Addr) (k c : Nat) (w : World) : Calls Try.prog 53 #[.agg #[.int .i64 0, .int .i64 0, .slice A k c]] w fun e w' => e = .returned (.bool false) ∧ Below w.heap.size w w' := by
  have HB := Lib.hid (fun o => box_below w o)
  go_enter Try.func53, Try.ntmps53
  go_wp2
  go_ret
  exact ⟨rfl, HB.out _⟩

set_option maxRecDepth 100000 in
set_option maxHeartbeats 400000 in
theorem large_no (F S k c : Nat) (A : Option Addr) (w : World) (hF : F ≤ 60000) (hS : S ≤ 60000) (hk : k ≤ 60000) : Calls Try.prog 58 #[.agg #[.int .i64 (F : Int), .int .i64 (S : Int), .slice A k c]] w fun e w' => e = .returned (.bool false) ∧ Below w.heap.size w w' := by
  have HB := Lib.hid (fun o => box_below w o)
  go_enter Try.func58, Try.ntmps58
  go_wp2
  all_goals
    go_ret
    exact ⟨by first | rfl | (simp; omega), HB.out _⟩

set_option maxRecDepth 100000 in
set_option maxHeartbeats 1000000 in
theorem bad_no (o : O) (v : Value) (N : Nat) (w : World) (h : VO N o v) : Calls Try.prog 59 #[.agg (opC o v)] w fun e w' => e = .returned (.bool false) ∧ Below w.heap.size w w' := by
  have HB := Lib.hid (box_below w (.cells (opC o v) 54))
  have HR := Lib.hid (heap_alloc_new w (.cells (opC o v) 54))
  obtain ⟨F, S, d⟩ := o
  rcases h with ⟨h1, h2, B, k, cc, rfl, hk⟩ | ⟨hS, rfl, h3, h4⟩
  · simp only at h1 h2
    subst h1
    subst h2
    have hr0 : (w.alloc (.cells (opC ⟨0, 0, d⟩ (.slice B k cc)) 54)).heap[w.heap.size]? = some (.cells #[.int .i64 0, .int .i64 0, .slice B k cc] 54 (0, 0)) := HR.out
    obtain ⟨d0, d1, d2⟩ := opCells _ _ _ _ _ _ _ hr0
    clear hr0
    go_enter Try.func59, Try.ntmps59
    go_wp2_with (first
      | (go_at_call 53; refine (cpy_no B k cc _).mono ?_; rintro e w1 ⟨rfl, hb1⟩; have hr1 := (hb1.block w.heap.size (by simp)).trans HR.out; have HB1 := Lib.hid (HB.out.trans (hb1.mono HB.out.size)); clear hb1 d0 d1 d2; obtain ⟨d0, d1, d2⟩ := opCells _ _ _ _ _ _ _ hr1; clear hr1)
      | (go_at_call 52; refine (ins_yes B k cc _ hk).mono ?_; rintro e w2 ⟨rfl, hb2⟩; have HB2 := Lib.hid (HB1.out.trans (hb2.mono HB1.out.size)); clear hb2))
    go_ret
    exact ⟨rfl, HB2.out⟩
  · simp only at hS h3 h4
    obtain ⟨d0, d1, d2⟩ := opCells _ _ _ _ _ _ _ HR.out
    go_enter Try.func59, Try.ntmps59
    go_wp2_with (go_at_call 53; refine (cpy_yes F S _ hS).mono ?_; rintro e w1 ⟨rfl, hb1⟩; have HB1 := Lib.hid (HB.out.trans (hb1.mono HB.out.size)); clear hb1)
    go_ret
    exact ⟨by simp, HB1.out⟩

def sml (p : O) : Prop := p.f ≤ 60000 ∧ p.s ≤ 60000 ∧ p.d.length ≤ 60000

set_option maxRecDepth 100000 in
set_option maxHeartbeats 1000000 in
theorem index_large (A : Option Addr) (n c : Nat) (os : List O) (vs : List Value) (w : World) (h : OLies w A n os vs) (hs : ∀ j, j < n → sml (os.getD j o0)) (hn : n ≤ 1000) :
    Calls Try.prog 77 #[.slice A n c, .func (.func 58) #[] #[]] w fun e w' => e = .returned (.int .i64 (-1)) ∧ Below w.heap.size w w' := by
  have H := Lib.hid h
  have HS := Lib.hid hs
  clear h hs
  go_enter Try.func77, Try.ntmps77
  go_wp2
  go_loopw [8] (fun ii wr => ∃ i : Nat, i ≤ n ∧ ii = .int .i64 i ∧ Below w.heap.size w wr) (fun ii _ => n - (intOf ii).toNat)
  case atStart => exact ⟨0, by omega, rfl, Below.refl _ _⟩
  case round =>
    obtain ⟨i, hi, rfl, hbl⟩ := hrel
    have HBL := Lib.hid hbl
    by_cases hlt2 : i < n
    · obtain ⟨b, off, rfl, hbk, hc⟩ := (H.out.below hbl).mem (by omega)
      obtain ⟨c0, c1, c2⟩ := hc i hlt2
      obtain ⟨B, cc, hv⟩ := (H.out.by_ i hlt2).form
      rw [hv] at c2
      obtain ⟨s1, s2, s3⟩ := HS.out i hlt2
      have HE := Lib.hid (large_no _ _ _ cc B wr s1 s2 s3)
      clear hc hbl hv s1 s2 s3
      generalize os.getD i o0 = o at *
      go_wp2_with (go_at_call 58; refine HE.out.mono ?_; rintro e w2 ⟨rfl, hb2⟩; have HB2 := Lib.hid (HBL.out.trans (hb2.mono HBL.out.size)); clear hb2)
      exact ⟨⟨i + 1, by omega, by go_num, HB2.out⟩, by simp [intOf]; omega⟩
    · obtain rfl : n = i := by omega
      go_wp2
      go_ret
      exact ⟨rfl, HBL.out⟩

set_option maxRecDepth 100000 in
set_option maxHeartbeats 400000 in
theorem contains_large (A : Option Addr) (n c : Nat) (os : List O) (vs : List Value) (w : World) (h : OLies w A n os vs) (hs : ∀ j, j < n → sml (os.getD j o0)) (hn : n ≤ 1000) :
    Calls Try.prog 54 #[.slice A n c, .func (.func 58) #[] #[]] w fun e w' => e = .returned (.bool false) ∧ Below w.heap.size w w' := by
  have HC := Lib.hid (index_large A n c os vs w h hs hn)
  clear h hs
  go_enter Try.func54, Try.ntmps54
  go_wp2_with (go_at_call 77; refine HC.out.mono ?_; rintro e w' ⟨rfl, hb⟩; have HB := Lib.hid hb; clear hb)
  go_ret
  exact ⟨rfl, HB.out⟩

set_option maxRecDepth 100000 in
set_option maxHeartbeats 1000000 in
theorem index_bad (A : Option Addr) (n c N : Nat) (os : List O) (vs : List Value) (w : World) (h : OLies w A n os vs) (hv : ∀ j, j < n → VO N (os.getD j o0) (vs.getD j undef)) (hn : n ≤ 1000) :
    Calls Try.prog 77 #[.slice A n c, .func (.func 59) #[] #[]] w fun e w' => e = .returned (.int .i64 (-1)) ∧ Below w.heap.size w w' := by
  have H := Lib.hid h
  have HV := Lib.hid hv
  clear h hv
  go_enter Try.func77, Try.ntmps77
  go_wp2
  go_loopw [8] (fun ii wr => ∃ i : Nat, i ≤ n ∧ ii = .int .i64 i ∧ Below w.heap.size w wr) (fun ii _ => n - (intOf ii).toNat)
  case atStart => exact ⟨0, by omega, rfl, Below.refl _ _⟩
  case round =>
    obtain ⟨i, hi, rfl, hbl⟩ := hrel
    have HBL := Lib.hid hbl
    by_cases hlt2 : i < n
    · obtain ⟨b, off, rfl, hbk, hc⟩ := (H.out.below hbl).mem (by omega)
      obtain ⟨c0, c1, c2⟩ := hc i hlt2
      have HE := Lib.hid (bad_no _ _ N wr (HV.out i hlt2))
      clear hc hbl
      generalize os.getD i o0 = o at *
      generalize vs.getD i undef = v at *
      go_wp2_with (go_at_call 59; refine HE.out.mono ?_; rintro e w2 ⟨rfl, hb2⟩; have HB2 := Lib.hid (HBL.out.trans (hb2.mono HBL.out.size)); clear hb2)
      exact ⟨⟨i + 1, by omega, by go_num, HB2.out⟩, by simp [intOf]; omega⟩
    · obtain rfl : n = i := by omega
      go_wp2
      go_ret
      exact ⟨rfl, HBL.out⟩

set_option maxRecDepth 100000 in
set_option maxHeartbeats 400000 in
theorem contains_bad (A : Option Addr) (n c N : Nat) (os : List O) (vs : List Value) (w : World) (h : OLies w A n os vs) (hv : ∀ j, j < n → VO N (os.getD j o0) (vs.getD j undef)) (hn : n ≤ 1000) :
    Calls Try.prog 54 #[.slice A n c, .func (.func 59) #[] #[]] w fun e w' => e = .returned (.bool false) ∧ Below w.heap.size w w' := by
  have HC := Lib.hid (index_bad A n c N os vs w h hv hn)
  clear h hv
  go_enter Try.func54, Try.ntmps54
  go_wp2_with (go_at_call 77; refine HC.out.mono ?_; rintro e w' ⟨rfl, hb⟩; have HB := Lib.hid hb; clear hb)
  go_ret
  exact ⟨rfl, HB.out⟩

end Go.Proofs.Ytgaliinjjonlmaa.Dt
