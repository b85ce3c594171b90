import Derived.Test.YtgaliinjjonlmaaTape
import Derived.Test.YtgaliinjjonlmaaBytesWalk
import Derived.WalkKit
import Derived.Lib.Hide
import Derived.WalkSpells
import Derived.WalkLawsBesides
import Derived.Deep.QuietTactic
import Derived.BigQuiet
import Derived.Laws.Rows
import Derived.Laws.AppendOwnNone
import Derived.Laws.BytesArg
namespace Go.Proofs.Ytgaliinjjonlmaa.Dt
open Go.RowKit
open Go.Proofs.Ytgaliinjjonlmaa.Tp
set_option linter.unusedVariables false

/-- An operation: where from, how many, which bytes. -/
structure O where
  f : Nat
  s : Nat
  d : List Nat

def o0 : O := ⟨0, 0, []⟩

/-- What an operation counts, and what it makes. -/
def cnt (o : O) : Nat := if 1 ≤ o.s then o.s else o.d.length
def ap (base : List Nat) (o : O) : List Nat := (base.drop o.f).take o.s ++ o.d

def tot (os : List O) : Nat → Nat
  | 0 => 0
  | n + 1 => tot os n + cnt (os.getD n o0)

def apl (base : List Nat) (os : List O) : Nat → List Nat
  | 0 => []
  | n + 1 => apl base os n ++ ap base (os.getD n o0)

/-- Valid for a base of N bytes. -/
def OkO (N : Nat) (o : O) : Prop := (o.f = 0 ∧ o.s = 0 ∧ 1 ≤ o.d.length) ∨ (1 ≤ o.s ∧ o.d = [] ∧ o.s ≤ N ∧ o.f ≤ N - o.s)

theorem tot_mono (os : List O) : ∀ n m, n ≤ m → tot os n ≤ tot os m
  | n, 0, h => by
    obtain rfl : n = 0 := by omega
    exact Nat.le_refl _
  | n, m + 1, h => by
    by_cases e : n = m + 1
    · rw [e]
      exact Nat.le_refl _
    · have := tot_mono os n m (by omega)
      simp only [tot]
      omega

/-- Bytes as they lie in memory; nil has none. -/
def By (w : World) (v : Value) (bs : List Nat) : Prop :=
  (∀ b ∈ bs, b ≤ 255) ∧ ((v = .slice none 0 0 ∧ bs = []) ∨
    ∃ b off c, v = .slice (some ⟨b, off, none⟩) bs.length c ∧ bs.length ≤ c ∧ c ≤ maxLen ∧ b < w.heap.size ∧ ∀ j, j < bs.length → w.cell? ⟨b, off + j, none⟩ = some (.int .u8 ((bs.getD j 0 : Nat) : Int)))

theorem By.below {w w' : World} {v : Value} {bs : List Nat} (h : By w v bs) (hb : Below w.heap.size w w') : By w' v bs := by
  refine ⟨h.1, ?_⟩
  rcases h.2 with h2 | ⟨b, off, c, e, h1, h2, h3, h4⟩
  · exact .inl h2
  · exact .inr ⟨b, off, c, e, h1, h2, Nat.lt_of_lt_of_le h3 hb.size, fun j hj => (hb.cell (p := ⟨b, off + j, none⟩) h3).trans (h4 j hj)⟩

theorem By.form {w : World} {v : Value} {bs : List Nat} (h : By w v bs) : ∃ A c, v = .slice A bs.length c := by
  rcases h.2 with ⟨rfl, rfl⟩ | ⟨b, off, c, e, _⟩
  · exact ⟨none, 0, rfl⟩
  · exact ⟨_, c, e⟩

def opC (o : O) (v : Value) : Array Value := #[.int .i64 (o.f : Int), .int .i64 (o.s : Int), v]

/-- Operations as they lie in memory. -/
structure OLies (w : World) (A : Option Addr) (n : Nat) (os : List O) (vs : List Value) : Prop where
  len : os.length = n
  vlen : vs.length = n
  mem : 0 < n → ∃ b off, A = some ⟨b, off, none⟩ ∧ b < w.heap.size ∧ ∀ j, j < n →
    w.cell? ⟨b, off + j * 3, none⟩ = some (.int .i64 ((os.getD j o0).f : Nat)) ∧ w.cell? ⟨b, off + j * 3 + 1, none⟩ = some (.int .i64 ((os.getD j o0).s : Nat)) ∧ w.cell? ⟨b, off + j * 3 + 2, none⟩ = some (vs.getD j undef)
  by_ : ∀ j, j < n → By w (vs.getD j undef) (os.getD j o0).d

theorem OLies.below {w w' : World} {A : Option Addr} {n : Nat} {os : List O} {vs : List Value} (h : OLies w A n os vs) (hb : Below w.heap.size w w') : OLies w' A n os vs :=
  ⟨h.len, h.vlen, fun hn => by
    obtain ⟨b, off, e, hlt, hc⟩ := h.mem hn
    refine ⟨b, off, e, Nat.lt_of_lt_of_le hlt hb.size, fun j hj => ?_⟩
    obtain ⟨h0, h1, h2⟩ := hc j hj
    exact ⟨(hb.cell (p := ⟨b, _, none⟩) hlt).trans h0, (hb.cell (p := ⟨b, _, none⟩) hlt).trans h1, (hb.cell (p := ⟨b, _, none⟩) hlt).trans h2⟩, fun j hj => (h.by_ j hj).below hb⟩

theorem box_below (w : World) (o : Obj) : Below w.heap.size w (w.alloc o) := (Below.refl _ _).alloc (Nat.le_refl _) _

theorem row_lt {w : World} {g : Nat} {o : Obj} (h : w.heap[g]? = some o) : g < w.heap.size := (Array.getElem?_eq_some_iff.1 h).1

theorem opCells (w : World) (F S : Int) (v : Value) (t : TypeId) (fr : Nat × Nat) (g : Nat) (h : w.heap[g]? = some (.cells #[.int .i64 F, .int .i64 S, v] t fr)) :
    w.cell? ⟨g, 0, none⟩ = some (.int .i64 F) ∧ w.cell? ⟨g, 1, none⟩ = some (.int .i64 S) ∧ w.cell? ⟨g, 2, none⟩ = some v := by
  refine ⟨?_, ?_, ?_⟩ <;> rw [cell_of_row _ _ _ _ _ _ h] <;> rfl

set_option maxRecDepth 100000 in
set_option maxHeartbeats 400000 in
theorem ins_yes (A : Option Addr) (k c : Nat) (w : World) (hk : 1 ≤ k) : Calls Try.prog 52 #[.agg #[.int .i64 0, .int .i64 0, .slice A k c]] w fun e w' => e = .returned (.bool true) ∧ Below w.heap.size w w' := by
  have HB := Lib.hid (fun o => box_below w o)
  have hd : decide ((1 : Int) ≤ (k : Int)) = true := decide_eq_true (by omega)
  go_enter Try.func52, Try.ntmps52
  go_wp2
  go_ret
  exact ⟨by first | rfl | simp [hd], HB.out _⟩

set_option maxRecDepth 100000 in
set_option maxHeartbeats 400000 in
theorem ins_no (F S : Nat) (v : Value) (w : World) (hS : 1 ≤ S) : Calls Try.prog 52 #[.agg #[.int .i64 (F : Int), .int .i64 (S : Int), v]] w fun e w' => e = .returned (.bool false) ∧ Below w.heap.size w w' := by
  have HB := Lib.hid (fun o => box_below w o)
  have hd : ((S : Int) == 0) = false := beq_eq_false_iff_ne.2 (by omega)
  go_enter Try.func52, Try.ntmps52
  go_wp2
  go_ret
  exact ⟨rfl, HB.out _⟩

set_option maxRecDepth 100000 in
set_option maxHeartbeats 400000 in
theorem cpy_yes (F S : Nat) (w : World) (hS : 1 ≤ S) : Calls Try.prog 53 #[.agg #[.int .i64 (F : Int), .int .i64 (S : Int), .slice none 0 0]] w fun e w' => e = .returned (.bool true) ∧ Below w.heap.size w w' := by
  have HB := Lib.hid (fun o => box_below w o)
  have hd : decide ((1 : Int) ≤ (S : Int)) = true := decide_eq_true (by omega)
  have hf : decide ((0 : Int) ≤ (F : Int)) = true := decide_eq_true (by omega)
  go_enter Try.func53, Try.ntmps53
  go_wp2
  go_ret
  exact ⟨by first | rfl | simp, HB.out _⟩

/-- A valid operation as a value. -/
def VO (N : Nat) (o : O) (v : Value) : Prop := (o.f = 0 ∧ o.s = 0 ∧ ∃ A k c, v = .slice A k c ∧ 1 ≤ k) ∨ (1 ≤ o.s ∧ v = .slice none 0 0 ∧ o.s ≤ N ∧ o.f ≤ N - o.s)

set_option maxRecDepth 100000 in
set_option maxHeartbeats 1000000 in
theorem wrong_any (o : O) (v : Value) (A : Option Addr) (N c g : Nat) (w : World) (h : VO N o v) (hg : w.cell? ⟨g, 0, none⟩ = some (.slice A N c)) (hlt : g < w.heap.size) (hN : N ≤ 70000) :
    Calls Try.prog 51 #[.agg (opC o v), .pointer (some ⟨g, 0, none⟩)] w fun e w' => e = .returned (.bool false) ∧ Below w.heap.size w w' := by
  have HB := Lib.hid (box_below w (.cells (opC o v) 54))
  have HR := Lib.hid (heap_alloc_new w (.cells (opC o v) 54))
  have hc : ∀ o, (w.alloc o).cell? ⟨g, 0, none⟩ = some (.slice A N c) := fun o => (World.cell?_alloc_lt _ _ _ hlt).trans hg
  have HC := Lib.hid hc
  clear hg
  obtain ⟨F, S, d⟩ := o
  rcases h with ⟨h1, h2, B, k, cc, rfl, hk⟩ | ⟨hS, rfl, h3, h4⟩
  · simp only at h1 h2
    subst h1
    subst h2
    have hr0 : (w.alloc (.cells (opC ⟨0, 0, d⟩ (.slice B k cc)) 54)).heap[w.heap.size]? = some (.cells #[.int .i64 0, .int .i64 0, .slice B k cc] 54 (0, 0)) := HR.out
    obtain ⟨d0, d1, d2⟩ := opCells _ _ _ _ _ _ _ hr0
    clear hc hr0
    go_enter Try.func51, Try.ntmps51
    go_wp2_with (go_at_call 52; refine (ins_yes B k cc _ hk).mono ?_; rintro e w1 ⟨rfl, hb1⟩; have HB1 := Lib.hid (HB.out.trans (hb1.mono HB.out.size)); clear hb1)
    go_ret
    exact ⟨rfl, HB1.out⟩
  · simp only at hS h3 h4
    obtain ⟨d0, d1, d2⟩ := opCells _ _ _ _ _ _ _ HR.out
    have hle : (F : Int) ≤ (N : Int) - (S : Int) := by omega
    have hsn : (S : Int) ≤ (N : Int) := by omega
    go_enter Try.func51, Try.ntmps51
    go_wp2_with (first
      | (go_at_call 52; refine (ins_no F S _ _ hS).mono ?_; rintro e w1 ⟨rfl, hb1⟩; have hr1 := (hb1.block w.heap.size (by simp)).trans HR.out; have hc1 := (hb1.cell (p := ⟨g, 0, none⟩) (by simp; omega)).trans (HC.out _); have HB1 := Lib.hid (HB.out.trans (hb1.mono HB.out.size)); clear hb1 d0 d1 d2 hc; obtain ⟨d0, d1, d2⟩ := opCells _ _ _ _ _ _ _ hr1; have HR1 := Lib.hid hr1; clear hr1)
      | (go_at_call 53; refine (cpy_yes F S _ hS).mono ?_; rintro e w2 ⟨rfl, hb2⟩; have hr2 := (hb2.block w.heap.size (row_lt HR1.out)).trans HR1.out; have hc2 := (hb2.cell (p := ⟨g, 0, none⟩) (Nat.lt_trans hlt (row_lt HR1.out))).trans hc1; have HB2 := Lib.hid (HB1.out.trans (hb2.mono HB1.out.size)); clear hb2 d0 d1 d2 hc1; obtain ⟨d0, d1, d2⟩ := opCells _ _ _ _ _ _ _ hr2; clear hr2))
    go_ret
    exact ⟨by simp, HB2.out⟩

set_option maxRecDepth 100000 in
set_option maxHeartbeats 1000000 in
theorem index_any (A B : Option Addr) (n c N cb g : Nat) (os : List O) (vs : List Value) (w : World) (h : OLies w A n os vs) (hv : ∀ j, j < n → VO N (os.getD j o0) (vs.getD j undef)) (hg : w.cell? ⟨g, 0, none⟩ = some (.slice B N cb)) (hlt : g < w.heap.size) (hN : N ≤ 70000) (hn : n ≤ 1000) :
    Calls Try.prog 77 #[.slice A n c, .func (.func 51) #[] #[.pointer (some ⟨g, 0, none⟩)]] w fun e w' => e = .returned (.int .i64 (-1)) ∧ Below w.heap.size w w' := by
  have H := Lib.hid h
  have HV := Lib.hid hv
  have HG := Lib.hid hg
  clear h hv hg
  go_enter Try.func77, Try.ntmps77
  go_wp2
  go_loopw [8] (fun ii wr => ∃ i : Nat, i ≤ n ∧ ii = .int .i64 i ∧ Below w.heap.size w wr) (fun ii _ => n - (intOf ii).toNat)
  case atStart => exact ⟨0, by omega, rfl, Below.refl _ _⟩
  case round =>
    obtain ⟨i, hi, rfl, hbl⟩ := hrel
    have HBL := Lib.hid hbl
    by_cases hlt2 : i < n
    · obtain ⟨b, off, rfl, hbk, hc⟩ := (H.out.below hbl).mem (by omega)
      obtain ⟨c0, c1, c2⟩ := hc i hlt2
      have hgw : wr.cell? ⟨g, 0, none⟩ = some (.slice B N cb) := (hbl.cell (p := ⟨g, 0, none⟩) hlt).trans HG.out
      have HE := Lib.hid (wrong_any _ _ B N cb g wr (HV.out i hlt2) hgw (Nat.lt_of_lt_of_le hlt hbl.size) hN)
      clear hc hbl hgw
      generalize os.getD i o0 = o at *
      generalize vs.getD i undef = v at *
      go_wp2_with (go_at_call 51; refine HE.out.mono ?_; rintro e w2 ⟨rfl, hb2⟩; have HB2 := Lib.hid (HBL.out.trans (hb2.mono HBL.out.size)); clear hb2)
      exact ⟨⟨i + 1, by omega, by go_num, HB2.out⟩, by simp [intOf]; omega⟩
    · obtain rfl : n = i := by omega
      go_wp2
      go_ret
      exact ⟨rfl, HBL.out⟩

set_option maxRecDepth 100000 in
set_option maxHeartbeats 400000 in
theorem contains_any (A B : Option Addr) (n c N cb g : Nat) (os : List O) (vs : List Value) (w : World) (h : OLies w A n os vs) (hv : ∀ j, j < n → VO N (os.getD j o0) (vs.getD j undef)) (hg : w.cell? ⟨g, 0, none⟩ = some (.slice B N cb)) (hlt : g < w.heap.size) (hN : N ≤ 70000) (hn : n ≤ 1000) :
    Calls Try.prog 54 #[.slice A n c, .func (.func 51) #[] #[.pointer (some ⟨g, 0, none⟩)]] w fun e w' => e = .returned (.bool false) ∧ Below w.heap.size w w' := by
  have HC := Lib.hid (index_any A B n c N cb g os vs w h hv hg hlt hN hn)
  clear h hv hg
  go_enter Try.func54, Try.ntmps54
  go_wp2_with (go_at_call 77; refine HC.out.mono ?_; rintro e w' ⟨rfl, hb⟩; have HB := Lib.hid hb; clear hb)
  go_ret
  exact ⟨rfl, HB.out⟩

set_option maxRecDepth 100000 in
set_option maxHeartbeats 1000000 in
theorem made_any (A : Option Addr) (n c N : Nat) (os : List O) (vs : List Value) (w : World) (h : OLies w A n os vs) (hv : ∀ j, j < n → VO N (os.getD j o0) (vs.getD j undef)) (ht : tot os n ≤ 60000) (hn : n ≤ 1000) :
    Calls Try.prog 50 #[.slice A n c] w fun e w' => e = .returned (.int .i64 (tot os n : Nat)) ∧ Below w.heap.size w w' := by
  have H := Lib.hid h
  have HV := Lib.hid hv
  have HT := Lib.hid (fun m hm => tot_mono os m n hm)
  clear h hv
  go_enter Try.func50, Try.ntmps50
  go_wp2
  go_loopw [3, 9] (fun ss ii wr => ∃ i : Nat, i ≤ n ∧ ii = .int .i64 i ∧ ss = .int .i64 (tot os i : Nat) ∧ Below w.heap.size w wr) (fun _ ii _ => n - (intOf ii).toNat)
  case atStart => exact ⟨0, by omega, rfl, rfl, Below.refl _ _⟩
  case round =>
    obtain ⟨i, hi, rfl, rfl, hbl⟩ := hrel
    have HBL := Lib.hid hbl
    by_cases hlt2 : i < n
    · obtain ⟨b, off, rfl, hbk, hc⟩ := (H.out.below hbl).mem (by omega)
      obtain ⟨c0, c1, c2⟩ := hc i hlt2
      have hvo := HV.out i hlt2
      have hby := (H.out.by_ i hlt2)
      have h1 := HT.out (i + 1) (by omega)
      have e1 : tot os (i + 1) = tot os i + cnt (os.getD i o0) := rfl
      clear hc hbl
      obtain ⟨⟨F, S, d⟩, ho⟩ : ∃ o, os.getD i o0 = o := ⟨_, rfl⟩
      rw [ho] at c0 c1 hvo hby e1
      rcases hvo with ⟨h2, h3, B, k, cc, hvv, hk⟩ | ⟨hS, hvv, h3, h4⟩
      · simp only at h2 h3
        subst h2
        subst h3
        rw [hvv] at c2 hby
        obtain ⟨A', c', e⟩ := hby.form
        cases e
        have e2 : cnt ⟨0, 0, d⟩ = d.length := if_neg (by simp)
        rw [e2] at e1
        have HF := Lib.hid (fun q (hq : q = i + 1) => (show tot os q = tot os i + d.length by rw [hq]; exact e1))
        have hsb : tot os i + d.length ≤ 60000 := by omega
        clear hby e2 h1 e1 ho HT H HV
        generalize tot os i = s at *
        generalize d.length = k at *
        go_wp2
        exact ⟨⟨i + 1, by omega, by go_num, by rw [HF.out (i + 1) rfl]; go_num, HBL.out.trans ((box_below wr _).mono HBL.out.size)⟩, by simp [intOf]; omega⟩
      · simp only at hS h3 h4
        rw [hvv] at c2
        have e2 : cnt ⟨F, S, d⟩ = S := if_pos hS
        rw [e2] at e1
        have HF := Lib.hid (fun q (hq : q = i + 1) => (show tot os q = tot os i + S by rw [hq]; exact e1))
        have hsb : tot os i + S ≤ 60000 := by omega
        have hS2 : (1 : Int) ≤ (S : Int) := by omega
        clear hby e2 h1 e1 ho HT H HV
        generalize tot os i = s at *
        go_wp2
        exact ⟨⟨i + 1, by omega, by go_num, by rw [HF.out (i + 1) rfl]; go_num, HBL.out.trans ((box_below wr _).mono HBL.out.size)⟩, by simp [intOf]; omega⟩
    · obtain rfl : n = i := by omega
      go_wp2
      go_ret
      exact ⟨rfl, HBL.out⟩

set_option maxRecDepth 100000 in
set_option maxHeartbeats 1000000 in
theorem check_any (A B : Option Addr) (n c N cb : Nat) (os : List O) (vs : List Value) (w : World) (h : OLies w A n os vs) (hv : ∀ j, j < n → VO N (os.getD j o0) (vs.getD j undef)) (ht : tot os n ≤ 60000) (hn : n ≤ 200) (hN : N ≤ 60000) :
    Calls Try.prog 22 #[.slice B N cb, .slice A n c] w fun e w' => e = .returned (.int .i64 0) ∧ Below w.heap.size w w' := by
  have HB0 := Lib.hid (box_below w (.cells #[.slice B N cb] 23))
  have HR0 := Lib.hid (heap_alloc_new w (.cells #[.slice B N cb] 23))
  have k1 := fun w' (hw : Below w.heap.size w w') => made_any A n c N os vs w' (h.below hw) hv ht (by omega)
  have k2 := fun w' (hw : Below w.heap.size w w') (hg : w'.cell? ⟨w.heap.size, 0, none⟩ = some (.slice B N cb)) (hlt : w.heap.size < w'.heap.size) => contains_any A B n c N cb w.heap.size os vs w' (h.below hw) hv hg hlt (by omega) (by omega)
  have K1 := Lib.hid k1
  have K2 := Lib.hid k2
  clear h hv k1 k2
  generalize tot os n = s at *
  go_enter Try.func22, Try.ntmps22
  go_wp2_with (first
    | (go_at_call 50; refine (K1.out _ HB0.out).mono ?_; rintro e w1 ⟨rfl, hb1⟩; have HR1 := Lib.hid ((hb1.block w.heap.size (by simp)).trans HR0.out); have HB1 := Lib.hid (HB0.out.trans (hb1.mono HB0.out.size)); clear hb1)
    | (go_at_call 54; refine (K2.out _ HB1.out (by rw [cell_of_row _ _ _ _ _ _ HR1.out]; rfl) (row_lt HR1.out)).mono ?_; rintro e w2 ⟨rfl, hb2⟩; have HB2 := Lib.hid (HB1.out.trans (hb2.mono HB1.out.size)); clear hb2))
  go_ret
  exact ⟨rfl, HB2.out⟩

end Go.Proofs.Ytgaliinjjonlmaa.Dt
