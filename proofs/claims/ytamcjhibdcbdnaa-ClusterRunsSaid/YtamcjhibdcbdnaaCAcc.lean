import Derived.Test.YtamcjhibdcbdnaaCChk2
import Derived.Deep.RegionHeld3
namespace Go.Proofs.Ytamcjhibdcbdnaa.Cl
open Go.RowKit
open Go.Proofs.Ytamcjhibdcbdnaa.Tp
set_option linter.unusedVariables false

theorem isbit_yes (b : Nat) (w : World) (h : b = 1 ∨ b = 2) : Calls Try.prog 66 #[.int .i64 (b : Int)] w fun e w' => e = .returned (.bool true) ∧ w = w' := by
  rcases h with rfl | rfl
  · go_enter Try.func66, Try.ntmps66
    go_wp2
    go_ret
    exact ⟨rfl, rfl⟩
  · go_enter Try.func66, Try.ntmps66
    go_wp2
    go_ret
    exact ⟨rfl, rfl⟩

theorem has_dec (x b : Nat) (hx : x ≤ 3) (hb : b ≤ 3) : (bits .and .i64 (x : Int) (b : Int) == 0) = !has x b := by
  rw [bits_and x b hx hb]
  unfold has
  cases h : (x &&& b) with
  | zero => rfl
  | succ n =>
    have e : (((n + 1 : Nat) : Int) == 0) = false := beq_eq_false_iff_ne.2 (by omega)
    rw [e]
    rfl

set_option maxRecDepth 100000 in
set_option maxHeartbeats 600000 in
theorem accepts_any (m B i b : Nat) (c : Cl) (v : Vl) (w : World) (h : CL w B c v) (hok : Ok m c) (hm : m ≤ 100) (hi : i < c.r.length) (hb : b ≤ 3) :
    Calls Try.prog 67 #[.agg (cv c v), .agg #[.int .i64 (((rd c.r i).1 : Nat) : Int), .bool (rd c.r i).2], .int .i64 (b : Int)] w fun e w' => e = .returned (.bool (acc c i b)) ∧ Below w.heap.size w w' := by
  obtain ⟨s1, s2, r1, r2, p2, sb, rb, pb⟩ := hok
  have hg := rb i hi
  have hs := sb _ hg
  have hac : acc c i b = ((rd c.r i).2 && has (c.s.getD (rd c.r i).1 0) b) := rfl
  rw [hac]
  generalize (rd c.r i).1 = g at *
  generalize (rd c.r i).2 = sv at *
  have HB0 := Lib.hid ((box_below w (.cells (cv c v) 25)).trans ((box_below (w.alloc (.cells (cv c v) 25)) (.cells #[.int .i64 (g : Int), .bool sv] 60)).mono (by simp)))
  have m1 := (heap_alloc_old (w.alloc (.cells (cv c v) 25)) (.cells #[.int .i64 (g : Int), .bool sv] 60) (by simp)).trans (heap_alloc_new w (.cells (cv c v) 25))
  obtain ⟨c0, c1, c2, c3⟩ := cvCells _ _ _ _ _ _ m1
  obtain ⟨B', off, hA, -, hlt, d0⟩ := (h.below HB0.out).r1.int hg
  have hd := has_dec (c.s.getD g 0) b hs hb
  clear h sb rb pb m1 c0 c2 c3 hac
  rw [hA] at c1
  generalize c.s.getD g 0 = x at *
  generalize hH : has x b = H at *
  clear hH
  have i0 : (0 : Int) ≤ (g : Int) := by omega
  have i1 : (g : Int) < (c.s.length : Int) := by omega
  cases sv with
  | false =>
    go_enter Try.func67, Try.ntmps67
    go_wp2
    go_ret
    exact ⟨rfl, HB0.out⟩
  | true =>
    go_enter Try.func67, Try.ntmps67
    go_wp2
    go_ret
    exact ⟨by simp; rw [bne, hd]; cases H <;> rfl, HB0.out⟩

def av (c : Cl) (v : Vl) : Value := .agg #[.bool c.f, .slice v.A1 c.s.length v.c1, .slice v.A2 c.r.length v.c2, .slice v.A3 c.p.length v.c3]

set_option maxRecDepth 100000 in
set_option maxHeartbeats 1000000 in
theorem Accepts_any (m B i b : Nat) (c : Cl) (v : Vl) (w : World) (h : CL w B c v) (hok : Ok m c) (hm : m ≤ 100) (hi : i < c.r.length) (hb : b = 1 ∨ b = 2) :
    Calls Try.prog 29 #[.agg (cv c v), .int .i64 (i : Int), .int .i64 (b : Int)] w fun e w' => e = .returned (.bool (acc c i b)) ∧ Below w.heap.size w w' := by
  have HB0 := Lib.hid (box_below w (.cells (cv c v) 25))
  have HR0 := Lib.hid (heap_alloc_new w (.cells (cv c v) 25))
  have r2 := hok.r2
  obtain ⟨B', off, hA, -, hlt, -, -⟩ := h.r2.rep hi
  have hch : ∀ w', Below w.heap.size w w' → Calls Try.prog 21 #[.agg #[.bool c.f, .slice v.A1 c.s.length v.c1, .slice (some ⟨B', off, none⟩) c.r.length v.c2, .slice v.A3 c.p.length v.c3]] w' fun e w'' => e = .returned (.int .i64 0) ∧ Below w'.heap.size w' w'' := fun w' hw => by
    have := check_any m B c v w' (h.below hw) hok hm
    rw [cv, hA] at this
    exact this
  have hac : ∀ w', Below w.heap.size w w' → Calls Try.prog 67 #[.agg #[.bool c.f, .slice v.A1 c.s.length v.c1, .slice (some ⟨B', off, none⟩) c.r.length v.c2, .slice v.A3 c.p.length v.c3], .agg #[.int .i64 (((rd c.r i).1 : Nat) : Int), .bool (rd c.r i).2], .int .i64 (b : Int)] w' fun e w'' => e = .returned (.bool (acc c i b)) ∧ Below w'.heap.size w' w'' := fun w' hw => by
    have := accepts_any m B i b c v w' (h.below hw) hok hm hi (by omega)
    rw [cv, hA] at this
    exact this
  have HCH := Lib.hid hch
  have HAC := Lib.hid hac
  have HC := Lib.hid h
  clear h hch hac hok
  have i0 : (0 : Int) ≤ (i : Int) := by omega
  have i1 : (i : Int) < (c.r.length : Int) := by omega
  have hk : ∀ w', Below (w.alloc (.cells (cv c v) 25)).heap.size (w.alloc (.cells (cv c v) 25)) w' → (w'.cell? ⟨w.heap.size, 0, none⟩ = some (.bool c.f) ∧ w'.cell? ⟨w.heap.size, 1, none⟩ = some (.slice v.A1 c.s.length v.c1) ∧ w'.cell? ⟨w.heap.size, 2, none⟩ = some (.slice (some ⟨B', off, none⟩) c.r.length v.c2) ∧ w'.cell? ⟨w.heap.size, 3, none⟩ = some (.slice v.A3 c.p.length v.c3) ∧
      w'.cell? ⟨B', off + i * 2, none⟩ = some (.int .i64 (((rd c.r i).1 : Nat) : Int)) ∧ w'.cell? ⟨B', off + i * 2 + 1, none⟩ = some (.bool (rd c.r i).2) ∧ Below w.heap.size w w' ∧ Below (w.alloc (.cells (cv c v) 25)).heap.size (w.alloc (.cells (cv c v) 25)) w') := fun w' hb => by
    obtain ⟨k0, k1, k2, k3⟩ := cvCells _ _ _ _ _ _ ((hb.block w.heap.size (row_lt HR0.out)).trans HR0.out)
    have hbw := HB0.out.trans (hb.mono HB0.out.size)
    obtain ⟨B2, off2, hA2, -, -, d0, d1⟩ := (HC.out.below hbw).r2.rep hi
    rw [hA] at hA2 k2
    cases hA2
    exact ⟨k0, k1, k2, k3, d0, d1, hbw, hb⟩
  have HK := Lib.hid hk
  clear hk
  generalize (rd c.r i).1 = g at *
  generalize (rd c.r i).2 = sv at *
  generalize acc c i b = ans at *
  go_enter Try.func29, Try.ntmps29
  go_wp2_with fail
  generalize w.alloc (.cells (cv c v) 25) = W0 at *
  have hbr : Below W0.heap.size W0 W0 := Below.refl _ _
  have hbd : Below W0.heap.size W0 W0.drew := hbr.drew
  go_region_held3 (fun w' => w'.cell? ⟨w.heap.size, 0, none⟩ = some (.bool c.f) ∧ w'.cell? ⟨w.heap.size, 1, none⟩ = some (.slice v.A1 c.s.length v.c1) ∧ w'.cell? ⟨w.heap.size, 2, none⟩ = some (.slice (some ⟨B', off, none⟩) c.r.length v.c2) ∧ w'.cell? ⟨w.heap.size, 3, none⟩ = some (.slice v.A3 c.p.length v.c3) ∧
      w'.cell? ⟨B', off + i * 2, none⟩ = some (.int .i64 (g : Int)) ∧ w'.cell? ⟨B', off + i * 2 + 1, none⟩ = some (.bool sv) ∧ Below w.heap.size w w' ∧ Below W0.heap.size W0 w')
    (first | (with_reducible assumption) | (with_reducible exact HK.out _ hbr) | (with_reducible exact HK.out _ hbd) | (go_split_ands; exact HK.out _ (Below.trans (by with_reducible assumption) (hb2.mono (Below.size (by with_reducible assumption))))))
    (first
      | (go_at_call 21; (with_reducible refine (HCH.out _ ?_).mono ?_); (go_split_ands; with_reducible assumption); rintro e w2 ⟨rfl, hb2⟩)
      | (go_at_call 66; (with_reducible refine (isbit_yes b _ hb).mono ?_); rintro e w2 ⟨rfl, rfl⟩)
      | (go_at_call 52; (with_reducible refine (num_yes i c.r.length _ hi (by omega)).mono ?_); rintro e w2 ⟨rfl, rfl⟩)
      | (go_at_call 67; (with_reducible refine (HAC.out _ ?_).mono ?_); (go_split_ands; with_reducible assumption); rintro e w2 ⟨rfl, hb2⟩))
  go_wp2_with fail
  go_ret
  go_split_ands
  exact ⟨rfl, by assumption⟩

end Go.Proofs.Ytamcjhibdcbdnaa.Cl
