import Derived.Test.YtamcjhibdcbdnaaCAsk
namespace Go.Proofs.Ytamcjhibdcbdnaa.Cl
open Go.RowKit
open Go.Proofs.Ytamcjhibdcbdnaa.Tp
set_option linter.unusedVariables false

/-- Evidence: a replica, a generation, whether it refused. -/
structure En where
  r : Nat
  g : Nat
  f : Bool

def an (c : Cl) (i : Nat) : En := ⟨i, (rd c.r i).1, !acc c i 1⟩
def ans (c : Cl) : Nat → List En
  | 0 => []
  | k + 1 => ans c k ++ [an c k]
def e0 : En := ⟨0, 0, false⟩

theorem ans_len (c : Cl) : ∀ k, (ans c k).length = k
  | 0 => rfl
  | k + 1 => by simp [ans, ans_len c k]
theorem ans_at (c : Cl) : ∀ k i, i < k → (ans c k).getD i e0 = an c i
  | 0, i, h => absurd h (by omega)
  | k + 1, i, h => by
    rw [ans, List.getD_eq_getElem?_getD]
    by_cases hi : i < k
    · rw [List.getElem?_append_left (by rw [ans_len]; exact hi), ← List.getD_eq_getElem?_getD]
      exact ans_at c k i hi
    · obtain rfl : i = k := by omega
      rw [List.getElem?_append_right (by rw [ans_len]; exact Nat.le_refl _), ans_len]
      simp

def xl : List En → List Value
  | [] => []
  | x :: l => [.int .i64 (x.r : Int), .int .i64 (x.g : Int), .bool x.f] ++ xl l
theorem xl_len : ∀ l, (xl l).length = l.length * 3
  | [] => rfl
  | x :: l => by
    have := xl_len l
    simp [xl, this]
    omega
theorem xl_snoc : ∀ (l : List En) (x : En), xl (l ++ [x]) = xl l ++ [.int .i64 (x.r : Int), .int .i64 (x.g : Int), .bool x.f]
  | [], x => by simp [xl]
  | y :: l, x => by simp [xl, xl_snoc l x]
theorem xl_at : ∀ (l : List En) (i : Nat), i < l.length → (xl l)[i * 3]? = some (.int .i64 (((l.getD i e0).r : Nat) : Int)) ∧ (xl l)[i * 3 + 1]? = some (.int .i64 (((l.getD i e0).g : Nat) : Int)) ∧ (xl l)[i * 3 + 2]? = some (.bool (l.getD i e0).f)
  | [], i, h => absurd h (by simp)
  | x :: l, 0, h => ⟨rfl, rfl, rfl⟩
  | x :: l, i + 1, h => by
    have ih := xl_at l i (by simpa using h)
    have e1 : (i + 1) * 3 = (i * 3) + 1 + 1 + 1 := by omega
    simp only [xl, e1]
    exact ih
theorem Row.evid {w : World} {B n : Nat} {A : Option Addr} {l : List En} (h : Row w B 3 A n (xl l)) {i : Nat} (hi : i < n) : ∃ b off, A = some ⟨b, off, none⟩ ∧ B ≤ b ∧ b < w.heap.size ∧ w.cell? ⟨b, off + i * 3, none⟩ = some (.int .i64 (((l.getD i e0).r : Nat) : Int)) ∧ w.cell? ⟨b, off + i * 3 + 1, none⟩ = some (.int .i64 (((l.getD i e0).g : Nat) : Int)) ∧ w.cell? ⟨b, off + i * 3 + 2, none⟩ = some (.bool (l.getD i e0).f) := by
  obtain ⟨b, off, e, hB, hlt, hc⟩ := h.mem (by omega)
  have hl := h.len
  rw [xl_len] at hl
  obtain ⟨a1, a2, a3⟩ := xl_at l i (by omega)
  exact ⟨b, off, e, hB, hlt, hc _ _ a1, hc _ _ a2, hc _ _ a3⟩

def AllPost (c : Cl) (w : World) (e : Ending) (w' : World) : Prop := ∃ A cc, e = .returned (.tuple #[.slice A c.r.length cc, .int .i64 0]) ∧ Row w' w.heap.size 3 A c.r.length (xl (ans c c.r.length)) ∧ Below w.heap.size w w'

set_option maxRecDepth 100000 in
set_option maxHeartbeats 1000000 in
theorem all_any (m B : Nat) (c : Cl) (v : Vl) (w : World) (h : CL w B c v) (hok : Ok m c) (hm : m ≤ 100) :
    Calls Try.prog 38 #[.agg (cv c v)] w (AllPost c w) := by
  have HB0 := Lib.hid (box_below w (.cells (cv c v) 25))
  have HR0 := Lib.hid (heap_alloc_new w (.cells (cv c v) 25))
  have r2 := hok.r2
  have hch : ∀ w', Below w.heap.size w w' → Calls Try.prog 21 #[.agg #[.bool c.f, .slice v.A1 c.s.length v.c1, .slice v.A2 c.r.length v.c2, .slice v.A3 c.p.length v.c3]] w' fun e w'' => e = .returned (.int .i64 0) ∧ Below w'.heap.size w' w'' := fun w' hw => check_any m B c v w' (h.below hw) hok hm
  have hac : ∀ i, i < c.r.length → ∀ w', Below w.heap.size w w' → Calls Try.prog 74 #[.agg #[.bool c.f, .slice v.A1 c.s.length v.c1, .slice v.A2 c.r.length v.c2, .slice v.A3 c.p.length v.c3], .int .i64 (i : Int)] w' fun e w'' => e = .returned (.agg #[.int .i64 (((an c i).r : Nat) : Int), .int .i64 (((an c i).g : Nat) : Int), .bool (an c i).f]) ∧ Below w'.heap.size w' w'' := fun i hi w' hw => answer_any m B i c v w' (h.below hw) hok hm hi
  have HCH := Lib.hid hch
  have HAC := Lib.hid hac
  have hrow : (w.alloc (.cells (cv c v) 25)).heap[w.heap.size]? = some (.cells (cv c v) 25 (0, 0)) := HR0.out
  clear h hch hac hok
  obtain ⟨c0, c1, c2, c3⟩ := cvCells _ _ _ _ _ _ hrow
  clear hrow
  obtain ⟨i0, hi1, hz0, hz1, hz2⟩ := info_parts zinfo67
  have HI := Lib.hid hi1
  have HI0 := Lib.hid hz0
  have HI1 := Lib.hid hz1
  have HI2 := Lib.hid hz2
  clear hi1 hz0 hz1 hz2
  go_enter Try.func38, Try.ntmps38
  go_wp2_with fail
  refine (HCH.out _ HB0.out).mono ?_
  rintro e w1 ⟨rfl, hb1⟩
  have R1 := Lib.hid ((hb1.block w.heap.size (row_lt HR0.out)).trans HR0.out)
  have HB1 := Lib.hid (HB0.out.trans (hb1.mono HB0.out.size))
  clear hb1 c0 c1 c2 c3
  obtain ⟨c0, c1, c2, c3⟩ := cvCells _ _ _ _ _ _ R1.out
  go_wp2_with fail
  go_loopw [5, 15] (fun ov ii wr => ∃ k : Nat, k ≤ c.r.length ∧ ii = .int .i64 k ∧ wr.ownsRow (w.heap.size + 1) 67 3 ov k (xl (ans c k)) ∧ Below w.heap.size w wr ∧ wr.heap[w.heap.size]? = some (.cells (cv c v) 25 (0, 0))) (fun _ ii _ => c.r.length - (intOf ii).toNat)
  case atStart => exact ⟨0, by omega, rfl, own_nil _ _ _ _, HB1.out, R1.out⟩
  case round =>
    clear c0 c1 c2 c3
    obtain ⟨k, hk, rfl, hown, hbl, hrow⟩ := hrel
    obtain ⟨c0, c1, c2, c3⟩ := cvCells _ _ _ _ _ _ hrow
    have hlw : w.heap.size < wr.heap.size := row_lt hrow
    have HOWN := Lib.hid hown
    have HBL := Lib.hid hbl
    have HROW := Lib.hid hrow
    clear hown hbl hrow
    by_cases hlt : k < c.r.length
    · go_wp2_with fail
      refine (HAC.out k hlt _ HBL.out).mono ?_
      rintro e w2 ⟨rfl, hb2⟩
      have R2 := Lib.hid ((hb2.block w.heap.size hlw).trans HROW.out)
      have HB2 := Lib.hid (HBL.out.trans (hb2.mono HBL.out.size))
      have HO2 := Lib.hid (own_below HOWN.out hb2)
      have hl2 := hb2.size
      have HSN := Lib.hid (show xl (ans c (k + 1)) = xl (ans c k) ++ [.int .i64 (((an c k).r : Nat) : Int), .int .i64 (((an c k).g : Nat) : Int), .bool (an c k).f] from xl_snoc _ _)
      clear hb2
      generalize ((an c k).r : Nat) = x1 at *
      generalize ((an c k).g : Nat) = x2 at *
      generalize (an c k).f = x3 at *
      go_wp2_with (at_builtin; refine wpList_append_own _ rfl (.tmp 18) (.tmp 22) 62 rfl (w.heap.size + 1) 67 i0 (.agg #[.int .i64 0, .int .i64 0, .bool false]) 3 24 Try.underlying62 HI.out HI0.out HI1.out HI2.out rfl (by decide) _ k (xl (ans c k)) rfl (HO2.out.alloc _) ⟨w2.heap.size, 0, none⟩ 1 1 [.int .i64 (x1 : Int), .int .i64 (x2 : Int), .bool x3] rfl rfl (World.news_of_block (heap_alloc_new w2 _)) (by simp [Value.oneCell']) (by unfold maxLen; omega) (by omega) (by simp; omega) ?_; intro v' w6 hown hgr _; have HOWN6 := Lib.hid hown; have J1 := Lib.hid ((far_block HO2.out hgr w.heap.size (by omega) (by omega)).trans R2.out); have HB6 := Lib.hid (far_below HB2.out HO2.out hgr (by omega)); clear hown hgr)
      exact ⟨⟨k + 1, by omega, by go_num, by rw [HSN.out]; exact HOWN6.out, HB6.out, J1.out⟩, by simp [intOf]; omega⟩
    · obtain rfl : k = c.r.length := by omega
      obtain ⟨A, cc, rfl⟩ := own_form HOWN.out
      go_wp2_with fail
      go_ret2
      exact ⟨A, cc, rfl, (row_of_own HOWN.out).base (Nat.le_succ _), HBL.out⟩

end Go.Proofs.Ytamcjhibdcbdnaa.Cl
