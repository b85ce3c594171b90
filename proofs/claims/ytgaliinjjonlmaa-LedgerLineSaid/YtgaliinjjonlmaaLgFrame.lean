import Derived.Test.YtgaliinjjonlmaaLgMake
import Derived.ProofKit
import Derived.OpenShut
import Derived.ShutString
import Derived.ChangeOld
namespace Go.Proofs.Ytgaliinjjonlmaa.Lg
open Go.RowKit
open Go.Proofs.Ytgaliinjjonlmaa.Tp
set_option linter.unusedVariables false

theorem own : ownKnob Try.prog.godebug = none := by kernel_rfl
theorem laidOut : laidOutB Try.prog = true := by kernel_rfl

/-- A slice of integers that came in: nil, or a row of 'cap' cells. -/
def IsRow (k : IntKind) (w : World) (a : Option Addr) (len cap : Nat) (zs : List Int) : Prop :=
  (a = none ∧ len = 0 ∧ cap = 0 ∧ zs = []) ∨
  ∃ x, a = some x ∧ len ≤ cap ∧ cap ≤ maxLen ∧ zs.length = cap ∧ (∀ i, i < zs.length → w.cell? (x.add i) = some (.int k (zs.getD i 0))) ∧ ∀ n ∈ zs, (Lit.int k n).wf = true

theorem IsRow.at_ {k : IntKind} {w : World} {a : Option Addr} {len cap : Nat} {zs : List Int} (h : IsRow k w a len cap zs) :
    len ≤ maxLen ∧ (0 < len → ∃ b off, a = some ⟨b, off, none⟩ ∧ b < w.heap.size ∧ ∀ j, j < len → w.cell? ⟨b, off + j, none⟩ = some (.int k (zs.getD j 0))) := by
  rcases h with ⟨rfl, rfl, rfl, rfl⟩ | ⟨x, rfl, hl, hm, hz, hc, hw⟩
  · exact ⟨by unfold maxLen; omega, fun h => absurd h (by omega)⟩
  · refine ⟨by omega, fun h0 => ?_⟩
    obtain ⟨b, off, spot⟩ := x
    have hc0 := hc 0 (by omega)
    have hspot : spot = none := by simpa [Addr.add] using World.cell?_spot hc0
    subst hspot
    have hlt : b < w.heap.size := by simpa [Addr.add] using block_lt_of_cell hc0
    refine ⟨b, off, rfl, hlt, fun j hj => ?_⟩
    have hj := hc j (by omega)
    have e : (⟨b, off, none⟩ : Addr).add j = ⟨b, off + j, none⟩ := by unfold Addr.add; split <;> simp_all
    rwa [e] at hj

theorem tape_new {w : World} {a : Option Addr} {len cap : Nat} {zs : List Int} (h : IsRow .i64 w a len cap zs) : TapeOk (w.alloc (.cells #[.slice a len cap, .int .i64 0] 27)) w.heap.size := by
  obtain ⟨hm, hc⟩ := h.at_
  unfold maxLen at hm
  refine ⟨a, len, cap, fun j => zs.getD j 0, 0, heap_alloc_new _ _, hm, by omega, fun h0 => ?_⟩
  obtain ⟨b, off, e, hlt, hcell⟩ := hc h0
  exact ⟨b, off, e, hlt, fun j hj => (World.cell?_alloc_lt w _ _ hlt).trans (hcell j hj)⟩

/-! ### awake: the chapter's example -/

def exL : List R := [⟨5, 3, 0, 1⟩, ⟨9, 2, 0, 7⟩]

theorem exOk : Ok exL := by
  refine ⟨by decide, fun i hi => ?_, fun i hi => ?_⟩
  · rcases (by simp [exL] at hi; omega : i = 0 ∨ i = 1) with rfl | rfl <;> decide
  · have : i = 0 := by simp [exL] at hi; omega
    subst this
    decide

def exC : Array Value := #[.int .i64 5, .int .i64 3, .int .i64 0, .int .i64 1, .int .i64 9, .int .i64 2, .int .i64 0, .int .i64 7]

theorem exLies (w : World) : Lies (w.alloc (.cells exC 57)) (some ⟨w.heap.size, 0, none⟩) 2 exL := by
  refine ⟨rfl, fun _ => ⟨w.heap.size, 0, rfl, by simp, fun j hj => ?_⟩⟩
  have h := heap_alloc_new w (.cells exC 57)
  rcases (by omega : j = 0 ∨ j = 1) with rfl | rfl
  · refine ⟨?_, ?_, ?_, ?_⟩ <;> rw [cell_of_row _ _ _ _ _ _ h] <;> rfl
  · refine ⟨?_, ?_, ?_, ?_⟩ <;> rw [cell_of_row _ _ _ _ _ _ h] <;> rfl

def belR (v x : Int) (b : Bool) (w' : World) (e : Ending) (w'' : World) : Prop := e = .returned (.tuple #[.agg #[.int .i64 v, .int .i64 x], .bool b]) ∧ Below w'.heap.size w' w''

theorem ex_calls (w : World) (w' : World) (hw : Below (w.alloc (.cells exC 57)).heap.size (w.alloc (.cells exC 57)) w') :
    Calls Try.prog 38 #[.slice (some ⟨w.heap.size, 0, none⟩) 2 2, .int .i64 9, .int .i64 0, .int .i64 4] w' (belR 1 0 true w') ∧
    Calls Try.prog 38 #[.slice (some ⟨w.heap.size, 0, none⟩) 2 2, .int .i64 9, .int .i64 0, .int .i64 2] w' (belR 7 1 true w') ∧
    Calls Try.prog 38 #[.slice (some ⟨w.heap.size, 0, none⟩) 2 2, .int .i64 5, .int .i64 0, .int .i64 2] w' (belR 0 (-1) false w') ∧
    Calls Try.prog 36 #[.slice (some ⟨w.heap.size, 0, none⟩) 2 2] w' (fun e w'' => e = .returned (.int .i64 0) ∧ Below w'.heap.size w' w'') := by
  have hl := (exLies w).below hw
  have h1 := believe_any _ 2 2 exL 9 0 4 w' hl exOk (by omega) (by omega)
  have h2 := believe_any _ 2 2 exL 9 0 2 w' hl exOk (by omega) (by omega)
  have h3 := believe_any _ 2 2 exL 5 0 2 w' hl exOk (by omega) (by omega)
  have e1 : sd exL 9 0 4 2 = 0 := by decide
  have e2 : sd exL 9 0 2 2 = 1 := by decide
  have e3 : sd exL 5 0 2 2 = -1 := by decide
  rw [e1] at h1
  rw [e2] at h2
  rw [e3] at h3
  exact ⟨h1, h2, h3, check_any _ 2 2 exL w' hl exOk⟩

set_option maxRecDepth 100000 in
set_option maxHeartbeats 1000000 in
theorem awake_any (w : World) : Calls Try.prog 32 #[] w fun e w' => e = .returned (.bool true) ∧ Below w.heap.size w w' := by
  have hx := ex_calls w
  have HX := Lib.hid hx
  have HB0 := Lib.hid (box_below w (.cells exC 57))
  have hbr : Below (w.alloc (.cells exC 57)).heap.size (w.alloc (.cells exC 57)) (w.alloc (.cells exC 57)) := Below.refl _ _
  have HBR := Lib.hid hbr
  clear hx hbr
  go_enter Try.func32, Try.ntmps32
  go_wp2_with fail
  refine (HX.out _ HBR.out).1.mono ?_
  rintro e w1 ⟨rfl, hb1⟩
  have HB1 := Lib.hid hb1
  have HC1 := Lib.hid (fun o => HB1.out.trans ((box_below w1 o).mono HB1.out.size))
  clear hb1
  go_wp2_with fail
  refine (HX.out _ (HC1.out _)).2.1.mono ?_
  rintro e w2 ⟨rfl, hb2⟩
  have c0 : (w1.alloc (.cells #[.int .i64 1, .int .i64 0] 67)).heap[w1.heap.size]? = some (.cells #[.int .i64 1, .int .i64 0] 67 (0, 0)) := heap_alloc_new _ _
  have R2 := Lib.hid ((hb2.block w1.heap.size (by simp)).trans c0)
  have HB2 := Lib.hid (HC1.out _ |>.trans (hb2.mono (HC1.out _).size))
  have HC2 := Lib.hid (fun o => HB2.out.trans ((box_below w2 o).mono HB2.out.size))
  clear hb2 c0
  go_wp2_with fail
  refine (HX.out _ (HC2.out _)).2.2.1.mono ?_
  rintro e w3 ⟨rfl, hb3⟩
  have c0 : (w2.alloc (.cells #[.int .i64 7, .int .i64 1] 67)).heap[w2.heap.size]? = some (.cells #[.int .i64 7, .int .i64 1] 67 (0, 0)) := heap_alloc_new _ _
  have hlt1 := row_lt R2.out
  have R3 := Lib.hid ((hb3.block w2.heap.size (by simp)).trans c0)
  have R3' := Lib.hid ((hb3.block w1.heap.size (by simp; omega)).trans ((heap_alloc_old _ _ hlt1).trans R2.out))
  have HB3 := Lib.hid (HC2.out _ |>.trans (hb3.mono (HC2.out _).size))
  have HC3 := Lib.hid (fun o => HB3.out.trans ((box_below w3 o).mono HB3.out.size))
  clear hb3 c0
  have d1 : ∀ o, (w3.alloc o).cell? ⟨w1.heap.size, 0, none⟩ = some (.int .i64 1) := fun o => (World.cell?_alloc_lt _ _ _ (row_lt R3'.out)).trans (rowFacts R3'.out).1
  have d2 : ∀ o, (w3.alloc o).cell? ⟨w2.heap.size, 0, none⟩ = some (.int .i64 7) := fun o => (World.cell?_alloc_lt _ _ _ (row_lt R3.out)).trans (rowFacts R3.out).1
  clear hlt1
  go_wp2_with (go_at_call 36; refine (HX.out _ (HC3.out _)).2.2.2.mono ?_; rintro e w4 ⟨rfl, hb4⟩; have HB4 := Lib.hid (HC3.out _ |>.trans (hb4.mono (HC3.out _).size)); clear hb4)
  go_ret
  exact ⟨rfl, HB0.out.trans (HB4.out.mono HB0.out.size)⟩

theorem Lies.grown {w w' : World} {A : Option Addr} {n T : Nat} {l : List R} (h : Lies w A n l) (hg : w.grownBy w' (some T)) (hf : ∀ a, A = some a → T < a.block) : Lies w' A n l :=
  ⟨h.len, fun hn => by
    obtain ⟨b, off, e, hlt, hc⟩ := h.mem hn
    have hne : b ≠ T := by have := hf _ e; simp at this; omega
    have hb : ∀ i, w'.cell? ⟨b, i, none⟩ = w.cell? ⟨b, i, none⟩ := fun i => World.cell?_of_block (w := w) (a := ⟨b, i, none⟩) (hg.block b hlt (by simpa using hne))
    refine ⟨b, off, e, Nat.lt_of_lt_of_le hlt hg.size, fun j hj => ?_⟩
    obtain ⟨h0, h1, h2, h3⟩ := hc j hj
    exact ⟨(hb _).trans h0, (hb _).trans h1, (hb _).trans h2, (hb _).trans h3⟩⟩

/-- Two ledgers, a tape, and the world behind. -/
structure Env (w : World) (T : Nat) (A : Option Addr) (n : Nat) (l : List R) (B : Option Addr) (m : Nat) (k : List R) (wr : World) : Prop where
  own : Lies wr A n l
  more : Lies wr B m k
  fa : ∀ a, A = some a → T < a.block
  fb : ∀ a, B = some a → T < a.block
  tp : TapeOk wr T
  bl : Below w.heap.size w wr
  tw : w.heap.size ≤ T

theorem tape_below {w w' : World} {T : Nat} (h : TapeOk w T) (hb : Below w.heap.size w w') : TapeOk w' T := tape_kept (row := none) h ⟨hb.os, hb.tape, hb.output, hb.size, fun k hk _ => hb.block k hk⟩ (by simp)

theorem Env.below {w wr w' : World} {T n m : Nat} {A B : Option Addr} {l k : List R} (h : Env w T A n l B m k wr) (hb : Below wr.heap.size wr w') : Env w T A n l B m k w' :=
  ⟨h.own.below hb, h.more.below hb, h.fa, h.fb, tape_below h.tp hb, h.bl.trans (hb.mono h.bl.size), h.tw⟩

theorem Env.tape {w wr w' : World} {T n m : Nat} {A B : Option Addr} {l k : List R} (h : Env w T A n l B m k wr) (hg : wr.grownBy w' (some T)) (ht : TapeOk w' T) : Env w T A n l B m k w' :=
  ⟨h.own.grown hg h.fa, h.more.grown hg h.fb, h.fa, h.fb, ht, h.bl.grown hg h.bl.size (fun g e => by cases e; exact h.tw), h.tw⟩

end Go.Proofs.Ytgaliinjjonlmaa.Lg
