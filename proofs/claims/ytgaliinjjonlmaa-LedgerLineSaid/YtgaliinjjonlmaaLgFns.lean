import Derived.Test.YtgaliinjjonlmaaTape
import Derived.Test.YtgaliinjjonlmaaLgMath
import Derived.WalkKit
import Derived.Lib.Hide
import Derived.WalkSpells
import Derived.WalkLawsBesides
import Derived.Deep.QuietTactic
import Derived.BigQuiet
import Derived.Laws.Rows
import Derived.Deep.RegionHeld3
namespace Go.Proofs.Ytgaliinjjonlmaa.Lg
open Go.RowKit
set_option linter.unusedVariables false

def recC (r : R) : Array Value := #[.int .i64 (r.k : Int), .int .i64 (r.s : Int), .int .i64 (r.u : Int), .int .i64 r.v]

/-- Records as they lie in memory. -/
structure Lies (w : World) (A : Option Addr) (n : Nat) (l : List R) : Prop where
  len : l.length = n
  mem : 0 < n → ∃ b off, A = some ⟨b, off, none⟩ ∧ b < w.heap.size ∧ ∀ j, j < n →
    w.cell? ⟨b, off + j * 4, none⟩ = some (.int .i64 ((l.getD j r0).k : Nat)) ∧ w.cell? ⟨b, off + j * 4 + 1, none⟩ = some (.int .i64 ((l.getD j r0).s : Nat)) ∧
    w.cell? ⟨b, off + j * 4 + 2, none⟩ = some (.int .i64 ((l.getD j r0).u : Nat)) ∧ w.cell? ⟨b, off + j * 4 + 3, none⟩ = some (.int .i64 (l.getD j r0).v)

theorem Lies.below {w w' : World} {A : Option Addr} {n : Nat} {l : List R} (h : Lies w A n l) (hb : Below w.heap.size w w') : Lies w' A n l :=
  ⟨h.len, fun hn => by
    obtain ⟨b, off, e, hlt, hc⟩ := h.mem hn
    refine ⟨b, off, e, Nat.lt_of_lt_of_le hlt hb.size, fun j hj => ?_⟩
    obtain ⟨h0, h1, h2, h3⟩ := hc j hj
    exact ⟨(hb.cell (p := ⟨b, _, none⟩) hlt).trans h0, (hb.cell (p := ⟨b, _, none⟩) hlt).trans h1, (hb.cell (p := ⟨b, _, none⟩) hlt).trans h2, (hb.cell (p := ⟨b, _, none⟩) hlt).trans h3⟩⟩

theorem box_below (w : World) (o : Obj) : Below w.heap.size w (w.alloc o) := (Below.refl _ _).alloc (Nat.le_refl _) _

theorem time_any (t : Nat) (w : World) (ht : t ≤ 1000000) : Calls Try.prog 64 #[.int .i64 (t : Int)] w fun e w' => e = .returned (.bool true) ∧ w = w' := by
  have hd : decide ((t : Int) ≤ 1099511627776) = true := decide_eq_true (by omega)
  go_enter Try.func64, Try.ntmps64
  go_wp2
  go_ret
  exact ⟨rfl, rfl⟩

def cmpI (x y : Nat) : Int := if x < y then -1 else if y < x then 1 else 0

theorem nan_any (x : Int) (w : World) : Calls Try.prog 79 #[.int .i64 x] w fun e w' => e = .returned (.bool false) ∧ w = w' := by
  go_enter Try.func79, Try.ntmps79
  go_wp2
  go_ret
  exact ⟨by simp, rfl⟩

set_option maxRecDepth 100000 in
set_option maxHeartbeats 400000 in
theorem compare_any (x y : Nat) (w : World) (hx : x ≤ 1000000) (hy : y ≤ 1000000) : Calls Try.prog 66 #[.int .i64 (x : Int), .int .i64 (y : Int)] w fun e w' => e = .returned (.int .i64 (cmpI x y)) ∧ w = w' := by
  unfold cmpI
  by_cases h1 : x < y
  · rw [if_pos h1]
    go_enter Try.func66, Try.ntmps66
    go_wp2_with (first | (go_at_call 79; refine (nan_any _ _).mono ?_; rintro e w' ⟨rfl, rfl⟩))
    go_ret
    exact ⟨rfl, rfl⟩
  · rw [if_neg h1]
    by_cases h2 : y < x
    · rw [if_pos h2]
      go_enter Try.func66, Try.ntmps66
      go_wp2_with (first | (go_at_call 79; refine (nan_any _ _).mono ?_; rintro e w' ⟨rfl, rfl⟩))
      go_ret
      exact ⟨rfl, rfl⟩
    · rw [if_neg h2]
      go_enter Try.func66, Try.ntmps66
      go_wp2_with (first | (go_at_call 79; refine (nan_any _ _).mono ?_; rintro e w' ⟨rfl, rfl⟩))
      go_ret
      exact ⟨rfl, rfl⟩

def InB (r : R) : Prop := r.k ≤ 1000000 ∧ r.s ≤ 1000000 ∧ r.u < 16 ∧ -1000000 ≤ r.v ∧ r.v ≤ 1000000

theorem recCells (w : World) (r : R) (o : Nat × Nat) (g : Nat) (h : w.heap[g]? = some (.cells (recC r) 57 o)) :
    w.cell? ⟨g, 0, none⟩ = some (.int .i64 (r.k : Int)) ∧ w.cell? ⟨g, 1, none⟩ = some (.int .i64 (r.s : Int)) ∧ w.cell? ⟨g, 2, none⟩ = some (.int .i64 (r.u : Int)) ∧ w.cell? ⟨g, 3, none⟩ = some (.int .i64 r.v) := by
  refine ⟨?_, ?_, ?_, ?_⟩ <;> rw [cell_of_row _ _ _ _ _ _ h] <;> rfl

set_option maxRecDepth 100000 in
set_option maxHeartbeats 400000 in
theorem wrong_any (r : R) (w : World) (h : InB r) : Calls Try.prog 63 #[.agg (recC r)] w fun e w' => e = .returned (.bool false) ∧ Below w.heap.size w w' := by
  obtain ⟨h1, h2, h3, h4, h5⟩ := h
  obtain ⟨c0, c1, c2, c3⟩ := recCells (w.alloc (.cells (recC r) 57)) r _ w.heap.size (heap_alloc_new _ _)
  have HB := Lib.hid (box_below w (.cells (recC r) 57))
  go_enter Try.func63, Try.ntmps63
  go_wp2_with (first
    | (go_at_call 64; (with_reducible refine (time_any r.k _ h1).mono ?_); rintro e w' ⟨rfl, rfl⟩)
    | (go_at_call 64; (with_reducible refine (time_any r.s _ h2).mono ?_); rintro e w' ⟨rfl, rfl⟩))
  go_ret
  have e : (decide ((r.u : Int) < 0) || decide ((16 : Int) ≤ r.u) || decide (r.v < -1000000) || decide (1000000 < r.v)) = false := by
    simp
    omega
  exact ⟨congrArg (fun b => Ending.returned (.bool b)) e, HB.out⟩

set_option maxRecDepth 100000 in
set_option maxHeartbeats 400000 in
theorem less_any (x y : R) (w : World) (hx : x.k ≤ 1000000) (hy : y.k ≤ 1000000) : Calls Try.prog 65 #[.agg (recC x), .agg (recC y)] w fun e w' => e = .returned (.int .i64 (cmpI x.k y.k)) ∧ Below w.heap.size w w' := by
  obtain ⟨c0, -⟩ := recCells (w.alloc (.cells (recC x) 57)) x _ w.heap.size (heap_alloc_new _ _)
  have d0 := (recCells ((w.alloc (.cells (recC x) 57)).alloc (.cells (recC y) 57)) y _ (w.heap.size + 1) (by have := heap_alloc_new (w.alloc (.cells (recC x) 57)) (.cells (recC y) 57); simpa using this)).1
  have c0' : ((w.alloc (.cells (recC x) 57)).alloc (.cells (recC y) 57)).cell? ⟨w.heap.size, 0, none⟩ = some (.int .i64 (x.k : Int)) := (World.cell?_alloc_lt _ _ _ (by simp)).trans c0
  clear c0
  have HB := Lib.hid ((box_below w (.cells (recC x) 57)).trans ((box_below (w.alloc (.cells (recC x) 57)) (.cells (recC y) 57)).mono (by simp)))
  go_enter Try.func65, Try.ntmps65
  go_wp2_with (first
    | (go_at_call 66; (with_reducible refine (compare_any x.k y.k _ hx hy).mono ?_); rintro e w' ⟨rfl, rfl⟩))
  go_ret
  exact ⟨rfl, HB.out⟩


set_option maxRecDepth 100000 in
set_option maxHeartbeats 400000 in
theorem index_any (A : Option Addr) (n c : Nat) (l : List R) (w : World) (h : Lies w A n l) (hn : n ≤ 100) (hb : ∀ i, i < n → InB (l.getD i r0)) :
    Calls Try.prog 80 #[.slice A n c, .func (.func 63) #[] #[]] w fun e w' => e = .returned (.int .i64 (-1)) ∧ Below w.heap.size w w' := by
  have H := Lib.hid h
  have HB := Lib.hid hb
  clear h hb
  go_enter Try.func80, Try.ntmps80
  go_wp2
  go_loopw [8] (fun i wr => ∃ k : Nat, k ≤ n ∧ i = .int .i64 k ∧ Below w.heap.size w wr) (fun i _ => n - (intOf i).toNat)
  case atStart => exact ⟨0, by omega, rfl, Below.refl _ _⟩
  case round =>
    obtain ⟨k, hk, rfl, hbl⟩ := hrel
    have HBL := Lib.hid hbl
    by_cases hlt : k < n
    · obtain ⟨b, off, rfl, hbk, hc⟩ := (H.out.below hbl).mem (by omega)
      obtain ⟨c0, c1, c2, c3⟩ := hc k hlt
      have hin := HB.out k hlt
      clear hbl hc
      generalize l.getD k r0 = r at *
      go_wp2_with (first
        | (go_at_call 63; (refine (wrong_any r _ hin).mono ?_); rintro e w' ⟨rfl, hb2⟩; have HB2 := Lib.hid (HBL.out.trans (hb2.mono HBL.out.size)); clear hb2 hin c0 c1 c2 c3))
      exact ⟨⟨k + 1, by omega, by go_num, HB2.out⟩, by simp [intOf]; omega⟩
    · obtain rfl : k = n := by omega
      go_wp2
      go_ret
      exact ⟨rfl, HBL.out⟩

set_option maxHeartbeats 400000 in
theorem contains_any (A : Option Addr) (n c : Nat) (l : List R) (w : World) (h : Lies w A n l) (hn : n ≤ 100) (hb : ∀ i, i < n → InB (l.getD i r0)) :
    Calls Try.prog 67 #[.slice A n c, .func (.func 63) #[] #[]] w fun e w' => e = .returned (.bool false) ∧ Below w.heap.size w w' := by
  have hc := index_any A n c l w h hn hb
  have HC := Lib.hid hc
  clear h hb hc
  go_enter Try.func67, Try.ntmps67
  go_wp2_with (go_at_call 80; refine HC.out.mono ?_; rintro e w' ⟨rfl, hb⟩; have HB := Lib.hid hb; clear hb)
  go_ret
  exact ⟨rfl, HB.out⟩

theorem cmpI_up {x y : Nat} (h : y ≤ x) : cmpI x y = 0 ∨ cmpI x y = 1 := by
  unfold cmpI
  rw [if_neg (by omega)]
  split
  · exact .inr rfl
  · exact .inl rfl

theorem rec_keep2 {w : World} {b o1 o2 : Nat} {x1 x2 x3 x4 y1 y2 y3 y4 : Value} (hlt : b < w.heap.size) (c0 : w.cell? ⟨b, o1, none⟩ = some x1) (c1 : w.cell? ⟨b, o1 + 1, none⟩ = some x2) (c2 : w.cell? ⟨b, o1 + 2, none⟩ = some x3) (c3 : w.cell? ⟨b, o1 + 3, none⟩ = some x4)
    (d0 : w.cell? ⟨b, o2, none⟩ = some y1) (d1 : w.cell? ⟨b, o2 + 1, none⟩ = some y2) (d2 : w.cell? ⟨b, o2 + 2, none⟩ = some y3) (d3 : w.cell? ⟨b, o2 + 3, none⟩ = some y4) (w' : World) (hb : Below w.heap.size w w') :
    w'.cell? ⟨b, o1, none⟩ = some x1 ∧ w'.cell? ⟨b, o1 + 1, none⟩ = some x2 ∧ w'.cell? ⟨b, o1 + 2, none⟩ = some x3 ∧ w'.cell? ⟨b, o1 + 3, none⟩ = some x4 ∧ w'.cell? ⟨b, o2, none⟩ = some y1 ∧ w'.cell? ⟨b, o2 + 1, none⟩ = some y2 ∧ w'.cell? ⟨b, o2 + 2, none⟩ = some y3 ∧ w'.cell? ⟨b, o2 + 3, none⟩ = some y4 ∧ Below w.heap.size w w' :=
  ⟨(hb.cell (p := ⟨b, _, none⟩) hlt).trans c0, (hb.cell (p := ⟨b, _, none⟩) hlt).trans c1, (hb.cell (p := ⟨b, _, none⟩) hlt).trans c2, (hb.cell (p := ⟨b, _, none⟩) hlt).trans c3, (hb.cell (p := ⟨b, _, none⟩) hlt).trans d0, (hb.cell (p := ⟨b, _, none⟩) hlt).trans d1, (hb.cell (p := ⟨b, _, none⟩) hlt).trans d2, (hb.cell (p := ⟨b, _, none⟩) hlt).trans d3, hb⟩

set_option maxRecDepth 100000 in
set_option maxHeartbeats 600000 in
theorem sorted_any (A : Option Addr) (n c : Nat) (l : List R) (w : World) (h : Lies w A n l) (hn : n ≤ 100) (hb : ∀ i, i < n → InB (l.getD i r0)) (hu : ∀ i, i + 1 < n → (l.getD i r0).k ≤ (l.getD (i + 1) r0).k) :
    Calls Try.prog 68 #[.slice A n c, .func (.func 65) #[] #[]] w fun e w' => e = .returned (.bool true) ∧ Below w.heap.size w w' := by
  have H := Lib.hid h
  have HB := Lib.hid hb
  have HU := Lib.hid hu
  clear h hb hu
  go_enter Try.func68, Try.ntmps68
  go_wp2
  go_loopw [5] (fun i wr => ∃ k : Nat, k ≤ n ∧ i = .int .i64 ((k : Int) - 1) ∧ Below w.heap.size w wr) (fun i _ => (intOf i + 1).toNat)
  case atStart => exact ⟨n, by omega, rfl, Below.refl _ _⟩
  case round =>
    obtain ⟨k, hk, rfl, hbl⟩ := hrel
    have HBL := Lib.hid hbl
    by_cases hlt : 2 ≤ k
    · obtain ⟨m, hm⟩ : ∃ m, k = m + 2 := ⟨k - 2, by omega⟩
      obtain ⟨p, rfl⟩ : ∃ p, k = p + 1 := ⟨k - 1, by omega⟩
      obtain rfl : p = m + 1 := by omega
      obtain ⟨b, off, rfl, hbk, hc⟩ := (H.out.below hbl).mem (by omega)
      obtain ⟨c0, c1, c2, c3⟩ := hc (m + 1) (by omega)
      obtain ⟨d0, d1, d2, d3⟩ := hc m (by omega)
      have hin := (HB.out (m + 1) (by omega)).1
      have hin2 := (HB.out m (by omega)).1
      have hcm := cmpI_up (HU.out m (by omega))
      clear hbl hc
      have hle := fun w => less_any (l.getD (m + 1) r0) (l.getD m r0) w hin hin2
      have HLE := Lib.hid hle
      generalize cmpI (l.getD (m + 1) r0).k (l.getD m r0).k = z at *
      clear hle hin hin2
      generalize hp : m + 1 = p at *
      have e1 : (((p + 1 : Nat) : Int) - 1) = (p : Int) := by omega
      rw [e1]
      have e2 : ((p : Int) - 1).toNat = m := by omega
      have hz : decide (z < 0) = false := decide_eq_false (by omega)
      have hbr : Below wr.heap.size wr wr := Below.refl _ _
      have hbd : Below wr.heap.size wr wr.drew := hbr.drew
      have g1 : (0 : Int) ≤ (p : Int) := by omega
      have g2 : (p : Int) < (n : Int) := by omega
      have g3 : (0 : Int) ≤ (m : Int) := by omega
      have g4 : (m : Int) < (n : Int) := by omega
      have g5 : IntKind.i64.wrap ((p : Int) - 1) = (m : Int) := by
        rw [IntKind.wrap_i64]
        omega
      have HK := Lib.hid (rec_keep2 hbk c0 c1 c2 c3 d0 d1 d2 d3)
      have HP := Lib.hid hp
      clear hcm hm hp e2
      generalize l.getD p r0 = rp at *
      generalize l.getD m r0 = rm at *
      go_wp2
      go_region_held3 (fun w' => w'.cell? ⟨b, off + p * 4, none⟩ = some (.int .i64 (rp.k : Nat)) ∧ w'.cell? ⟨b, off + p * 4 + 1, none⟩ = some (.int .i64 (rp.s : Nat)) ∧
          w'.cell? ⟨b, off + p * 4 + 2, none⟩ = some (.int .i64 (rp.u : Nat)) ∧ w'.cell? ⟨b, off + p * 4 + 3, none⟩ = some (.int .i64 rp.v) ∧
          w'.cell? ⟨b, off + m * 4, none⟩ = some (.int .i64 (rm.k : Nat)) ∧ w'.cell? ⟨b, off + m * 4 + 1, none⟩ = some (.int .i64 (rm.s : Nat)) ∧
          w'.cell? ⟨b, off + m * 4 + 2, none⟩ = some (.int .i64 (rm.u : Nat)) ∧ w'.cell? ⟨b, off + m * 4 + 3, none⟩ = some (.int .i64 rm.v) ∧ Below wr.heap.size wr w')
        (first | exact HK.out _ hbr | exact HK.out _ hbd | exact HK.out _ (hbd.trans hb2) | exact HK.out _ (hbr.trans hb2) | assumption | (go_split_ands; exact HK.out _ (Below.trans (by assumption) (hb2.mono (Below.size (by assumption))))))
        (first
          | (go_at_call 65; refine (HLE.out _).mono ?_; rintro e w2 ⟨rfl, hb2⟩))
      go_split_ands
      have hbw : Below wr.heap.size wr w2 := by assumption
      have HBW := Lib.hid (HBL.out.trans (hbw.mono HBL.out.size))
      clear hbw
      go_wp2_with fail
      have hp := HP.out
      exact ⟨⟨p, by omega, congrArg (Value.int .i64) (by omega), HBW.out⟩, by simp [intOf]; omega⟩
    · have hd : decide ((0 : Int) < (k : Int) - 1) = false := decide_eq_false (by omega)
      go_wp2
      go_ret
      exact ⟨rfl, HBL.out⟩

def botC (v x : Int) : Array Value := #[.int .i64 v, .int .i64 x]

theorem Ok.inb {l : List R} (h : Ok l) (i : Nat) (hi : i < l.length) : InB (l.getD i r0) := h.bd i hi

set_option maxRecDepth 100000 in
set_option maxHeartbeats 400000 in
theorem check_any (A : Option Addr) (n c : Nat) (l : List R) (w : World) (h : Lies w A n l) (hok : Ok l) :
    Calls Try.prog 36 #[.slice A n c] w fun e w' => e = .returned (.int .i64 0) ∧ Below w.heap.size w w' := by
  have hlen := h.len
  have hn : n ≤ 100 := by have := hok.few; omega
  have hb : ∀ i, i < n → InB (l.getD i r0) := fun i hi => hok.inb i (by omega)
  have hu : ∀ i, i + 1 < n → (l.getD i r0).k ≤ (l.getD (i + 1) r0).k := fun i hi => hok.up i (by omega)
  have k1 := fun w' (hw : Below w.heap.size w w') => contains_any A n c l w' (h.below hw) hn hb
  have k2 := fun w' (hw : Below w.heap.size w w') => sorted_any A n c l w' (h.below hw) hn hb hu
  have K1 := Lib.hid k1
  have K2 := Lib.hid k2
  clear h hok hlen hb hu k1 k2
  have hd : decide ((100 : Int) < (n : Int)) = false := decide_eq_false (by omega)
  go_enter Try.func36, Try.ntmps36
  go_wp2_with (first
    | (go_at_call 67; refine (K1.out _ (Below.refl _ _)).mono ?_; rintro e w1 ⟨rfl, hb1⟩; have HB1 := Lib.hid hb1; clear hb1)
    | (go_at_call 68; refine (K2.out _ HB1.out).mono ?_; rintro e w2 ⟨rfl, hb2⟩; have HB2 := Lib.hid (HB1.out.trans (hb2.mono HB1.out.size)); clear hb2))
  go_ret
  exact ⟨rfl, HB2.out⟩

end Go.Proofs.Ytgaliinjjonlmaa.Lg
