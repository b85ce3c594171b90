import Derived.Test.YtablgpcgfogfoaaRgE
import Derived.Deep.AppendLies
namespace Go.Proofs.Ytablgpcgfogfoaa.Rg
open Go.RowKit
open Go.Proofs.Ytablgpcgfogfoaa.Tp
set_option linter.unusedVariables false

/-- A registry whose rows are the call's own. -/
structure Own (w : World) (B : Nat) (nm : ByteArray) (r : Rg) (v : Vr) : Prop where
  o1 : w.ownsRow B 60 2 (.slice v.A1 r.s.length v.c1) r.s.length (sv nm r.s)
  o2 : w.ownsRow B 29 5 (.slice v.A2 r.c.length v.c2) r.c.length (kv r.c)
theorem Own.rl {w : World} {B : Nat} {nm : ByteArray} {r : Rg} {v : Vr} (h : Own w B nm r v) : RL w B nm r v := ⟨row_of_own h.o1, row_of_own h.o2⟩
theorem Own.below {w w' : World} {B : Nat} {nm : ByteArray} {r : Rg} {v : Vr} (h : Own w B nm r v) (hb : Below w.heap.size w w') : Own w' B nm r v := ⟨own_below h.o1 hb, own_below h.o2 hb⟩
theorem Own.set {w : World} {B g : Nat} {nm : ByteArray} {r : Rg} {v : Vr} (h : Own w B nm r v) (hg : g < B) (cs : Array Value) : Own (w.setRow g cs) B nm r v := ⟨own_set h.o1 hg cs, own_set h.o2 hg cs⟩
theorem Own.base {w : World} {B B' : Nat} {nm : ByteArray} {r : Rg} {v : Vr} (h : Own w B nm r v) (hb : B' ≤ B) : Own w B' nm r v := ⟨own_base h.o1 hb, own_base h.o2 hb⟩

theorem nil_step60 {ops : Array Oper} {o : Oper} {a : Act} {w : World} {K : Act → World → Prop} {Q : Exit → Act → World → Prop} {E : Prop} (hgd : o.guard = none) (s x : Operand) (B : Nat) (ho : o.op = .call { callee := .builtin .append, args := #[s, x], argTypes := #[23, 23] })
    (hv : a.eval s = .slice none 0 0) (A : Option Addr) (m c : Nat) (nm : ByteArray) (l : List Nat) (hx : a.eval x = .slice A m c) (hr : Row w B 2 A m (sv nm l)) (hl : m ≤ 1000)
    (h : ∀ A' c' w', w'.ownsRow w.heap.size 60 2 (.slice A' m c') m (sv nm l) → Below w.heap.size w w' → K (a.put o.dst (.slice A' m c')) w') : if Region.wanted o (yielded ops a.tmps) = true then Oper.wp Try.prog o a w K Q else E := by
  obtain ⟨i0, hi, hz0, hz1, hz2⟩ := info_parts zinfo60
  refine app_step hgd s x w.heap.size B 23 60 ho i0 _ 2 24 Try.underlying23 hi hz0 hz1 hz2 rfl (by omega) _ 0 [] hv (own_nil _ _ _ _) A m c (sv nm l) hx hr (sv_one nm l) (by omega) (by omega) (Nat.le_refl _) ?_
  intro v' w' h1 h2 _
  rw [Nat.zero_add, List.nil_append] at h1
  obtain ⟨A', c', rfl, hrow⟩ := own_row h1 hr.len
  exact h A' c' w' h1 ((Below.refl _ w).grown h2 (Nat.le_refl _) (by simp [Value.ownBlock]))

theorem nil_step29 {ops : Array Oper} {o : Oper} {a : Act} {w : World} {K : Act → World → Prop} {Q : Exit → Act → World → Prop} {E : Prop} (hgd : o.guard = none) (s x : Operand) (B : Nat) (ho : o.op = .call { callee := .builtin .append, args := #[s, x], argTypes := #[24, 24] })
    (hv : a.eval s = .slice none 0 0) (A : Option Addr) (m c : Nat) (l : List Cr) (hx : a.eval x = .slice A m c) (hr : Row w B 5 A m (kv l)) (hl : m ≤ 1000)
    (h : ∀ A' c' w', w'.ownsRow w.heap.size 29 5 (.slice A' m c') m (kv l) → Below w.heap.size w w' → K (a.put o.dst (.slice A' m c')) w') : if Region.wanted o (yielded ops a.tmps) = true then Oper.wp Try.prog o a w K Q else E := by
  obtain ⟨i0, hi, hz0, hz1, hz2⟩ := info_parts zinfo29
  refine app_step hgd s x w.heap.size B 24 29 ho i0 _ 5 40 Try.underlying24 hi hz0 hz1 hz2 rfl (by omega) _ 0 [] hv (own_nil _ _ _ _) A m c (kv l) hx hr (kv_one l) (by omega) (by omega) (Nat.le_refl _) ?_
  intro v' w' h1 h2 _
  rw [Nat.zero_add, List.nil_append] at h1
  obtain ⟨A', c', rfl, hrow⟩ := own_row h1 hr.len
  exact h A' c' w' h1 ((Below.refl _ w).grown h2 (Nat.le_refl _) (by simp [Value.ownBlock]))

set_option maxRecDepth 100000 in
set_option maxHeartbeats 400000 in
theorem clone60_any (nm : ByteArray) (l : List Nat) (B n c : Nat) (A : Option Addr) (w : World) (h : Row w B 2 A n (sv nm l)) (hn : n ≤ 1000) :
    Calls Try.prog 55 #[.slice A n c] w fun e w' => ∃ A' c', e = .returned (.slice A' n c') ∧ w'.ownsRow w.heap.size 60 2 (.slice A' n c') n (sv nm l) ∧ Below w.heap.size w w' := by
  cases A with
  | none =>
    obtain rfl : n = 0 := by
      by_cases h0 : n = 0
      · exact h0
      · obtain ⟨b, off, e, _⟩ := h.mem (by omega)
        cases e
    have hl : sv nm l = [] := List.eq_nil_of_length_eq_zero (by rw [h.len, Nat.zero_mul])
    rw [hl]
    have hnil : ∀ W : World, (binOp .eql 23 (.slice none 0 c) (.slice none 0 0)).run Try.prog W = .ok (.bool true) W := fun W => Lib.run_eql_slice_nil W 23 60 _ 0 c 0 0 Try.underlying23
    clear h
    go_enter Try.func55, Try.ntmps55
    go_wp2
    go_ret
    exact ⟨none, 0, rfl, own_nil _ _ _ _, Below.refl _ _⟩
  | some ad =>
    have HB := Lib.hid (h.below (box_below w (.cells #[] 60)))
    have HLEN := Lib.hid h.len
    have hnil : ∀ W : World, (binOp .eql 23 (.slice (some ad) n c) (.slice none 0 0)).run Try.prog W = .ok (.bool false) W := fun W => Lib.run_eql_slice_nil W 23 60 _ n c 0 0 Try.underlying23
    clear h
    obtain ⟨i0, hi, hz0, hz1, hz2⟩ := info_parts zinfo60
    have HI := Lib.hid hi
    have HZ0 := Lib.hid hz0
    have HZ1 := Lib.hid hz1
    have HZ2 := Lib.hid hz2
    clear hi hz0 hz1 hz2
    go_enter Try.func55, Try.ntmps55
    go_wp2_with (at_builtin; refine app_list rfl (.tmp 5) (.tmp 6) w.heap.size B 23 60 rfl i0 _ 2 24 Try.underlying23 HI.out HZ0.out HZ1.out HZ2.out rfl (by omega) _ 0 [] rfl ?_ (some ad) n c (sv nm l) rfl HB.out (sv_one nm l) (by omega) (by omega) (by simp) ?_; (exact World.ownsRow_lit _ #[] 0 (Nat.le_refl _) (by unfold maxLen; omega) rfl); intro v1 w3 own1 gr1 _; have HO := Lib.hid own1; have HG := Lib.hid gr1; clear own1 gr1)
    go_ret
    have ho := HO.out
    rw [List.nil_append, Nat.zero_add] at ho
    obtain ⟨A', c', rfl, hrow⟩ := own_row ho HLEN.out
    exact ⟨A', c', rfl, ho, ((Below.refl _ w).alloc (Nat.le_refl _) _).grown HG.out (by simp) (fun g e => by cases e; exact Nat.le_refl _)⟩

set_option maxRecDepth 100000 in
set_option maxHeartbeats 400000 in
theorem clone29_any (l : List Cr) (B n c : Nat) (A : Option Addr) (w : World) (h : Row w B 5 A n (kv l)) (hn : n ≤ 1000) :
    Calls Try.prog 56 #[.slice A n c] w fun e w' => ∃ A' c', e = .returned (.slice A' n c') ∧ w'.ownsRow w.heap.size 29 5 (.slice A' n c') n (kv l) ∧ Below w.heap.size w w' := by
  cases A with
  | none =>
    obtain rfl : n = 0 := by
      by_cases h0 : n = 0
      · exact h0
      · obtain ⟨b, off, e, _⟩ := h.mem (by omega)
        cases e
    have hl : kv l = [] := List.eq_nil_of_length_eq_zero (by rw [h.len, Nat.zero_mul])
    rw [hl]
    have hnil : ∀ W : World, (binOp .eql 24 (.slice none 0 c) (.slice none 0 0)).run Try.prog W = .ok (.bool true) W := fun W => Lib.run_eql_slice_nil W 24 29 _ 0 c 0 0 Try.underlying24
    clear h
    go_enter Try.func56, Try.ntmps56
    go_wp2
    go_ret
    exact ⟨none, 0, rfl, own_nil _ _ _ _, Below.refl _ _⟩
  | some ad =>
    have HB := Lib.hid (h.below (box_below w (.cells #[] 29)))
    have HLEN := Lib.hid h.len
    have hnil : ∀ W : World, (binOp .eql 24 (.slice (some ad) n c) (.slice none 0 0)).run Try.prog W = .ok (.bool false) W := fun W => Lib.run_eql_slice_nil W 24 29 _ n c 0 0 Try.underlying24
    clear h
    obtain ⟨i0, hi, hz0, hz1, hz2⟩ := info_parts zinfo29
    have HI := Lib.hid hi
    have HZ0 := Lib.hid hz0
    have HZ1 := Lib.hid hz1
    have HZ2 := Lib.hid hz2
    clear hi hz0 hz1 hz2
    go_enter Try.func56, Try.ntmps56
    go_wp2_with (at_builtin; refine app_list rfl (.tmp 5) (.tmp 6) w.heap.size B 24 29 rfl i0 _ 5 40 Try.underlying24 HI.out HZ0.out HZ1.out HZ2.out rfl (by omega) _ 0 [] rfl ?_ (some ad) n c (kv l) rfl HB.out (kv_one l) (by omega) (by omega) (by simp) ?_; (exact World.ownsRow_lit _ #[] 0 (Nat.le_refl _) (by unfold maxLen; omega) rfl); intro v1 w3 own1 gr1 _; have HO := Lib.hid own1; have HG := Lib.hid gr1; clear own1 gr1)
    go_ret
    have ho := HO.out
    rw [List.nil_append, Nat.zero_add] at ho
    obtain ⟨A', c', rfl, hrow⟩ := own_row ho HLEN.out
    exact ⟨A', c', rfl, ho, ((Below.refl _ w).alloc (Nat.le_refl _) _).grown HG.out (by simp) (fun g e => by cases e; exact Nat.le_refl _)⟩

def CpPost (nm : ByteArray) (r : Rg) (w : World) (e : Ending) (w' : World) : Prop := ∃ v', e = .returned (.agg (gv r v')) ∧ Own w' w.heap.size nm r v' ∧ Below w.heap.size w w'

theorem cpstart (nm : ByteArray) (B : Nat) (r : Rg) (v : Vr) (w : World) (h : RL w B nm r v) : ((w.alloc (.cells (gv r v) 26)).alloc (.cells zG 26)).heap[w.heap.size]? = some (.cells (gv r v) 26 (0, 0)) ∧ ((w.alloc (.cells (gv r v) 26)).alloc (.cells zG 26)).heap[w.heap.size + 1]? = some (.cells zG 26 (0, 0)) ∧ Below w.heap.size w ((w.alloc (.cells (gv r v) 26)).alloc (.cells zG 26)) ∧ RL ((w.alloc (.cells (gv r v) 26)).alloc (.cells zG 26)) B nm r v := by
  have hbz := (box_below w (.cells (gv r v) 26)).trans ((box_below (w.alloc (.cells (gv r v) 26)) (.cells zG 26)).mono (by simp))
  exact ⟨heap_alloc2_old w _ _, heap_alloc2_new w _ _, hbz, h.below hbz⟩

set_option maxRecDepth 100000 in
set_option maxHeartbeats 1000000 in
theorem copy_any (B : Nat) (nm : ByteArray) (r : Rg) (v : Vr) (w : World) (h : RL w B nm r v) (h1 : r.s.length ≤ 1000) (h2 : r.c.length ≤ 1000) :
    Calls Try.prog 11 #[.agg (gv r v)] w (CpPost nm r w) := by
  obtain ⟨hrow, hzr, hbz, hrl⟩ := cpstart nm B r v w h
  have HZ := Lib.hid hbz
  have HROW := Lib.hid hrow
  have HZR := Lib.hid hzr
  have HRL := Lib.hid hrl
  clear hbz hrow hzr hrl h
  go_enter Try.func11, Try.ntmps11
  go_wp2_with fail
  unfold zG at HZ HROW HZR HRL
  generalize (w.alloc (.cells (gv r v) 26)).alloc (.cells #[.slice none 0 0, .slice none 0 0] 26) = W0 at *
  have lz : w.heap.size < W0.heap.size := row_lt HROW.out
  have lz1 : w.heap.size + 1 < W0.heap.size := row_lt HZR.out
  obtain ⟨c0', c1'⟩ := gvCells HROW.out
  have d0' : W0.drew.cell? ⟨w.heap.size, 0, none⟩ = some (.slice v.A1 r.s.length v.c1) := c0'
  have d1' : W0.drew.cell? ⟨w.heap.size, 1, none⟩ = some (.slice v.A2 r.c.length v.c2) := c1'
  go_region_law (first
    | ((refine nil_step60 (by rfl) _ (.tmp 4) B (by rfl) (by rfl) v.A1 r.s.length v.c1 nm r.s (by rfl) ?_ h1 ?_); (first | exact HRL.out.r1 | exact HRL.out.drew.r1); (intro A1 k1 w1 hr1 hb1; have hB1 : Below W0.heap.size W0 w1 := (by first | exact hb1 | exact (Below.refl _ W0).drew.trans hb1); obtain ⟨x0, x1⟩ := gvCells ((hB1.block w.heap.size lz).trans HROW.out); have O1 := Lib.hid hr1; have HB1 := Lib.hid hB1; clear hr1 hb1 hB1))
    | ((refine nil_step29 (by rfl) _ (.tmp 7) B (by rfl) (by rfl) v.A2 r.c.length v.c2 r.c (by rfl) ?_ h2 ?_); (first | exact (HRL.out.below HB1.out).r2); (intro A2 k2 w2 hr2 hb2; have hB2 : Below W0.heap.size W0 w2 := HB1.out.trans (hb2.mono HB1.out.size); have hZ2 := (hB2.block (w.heap.size + 1) lz1).trans HZR.out; obtain ⟨y0, y1, y2, y3⟩ := zgCells hZ2; have Z2 := Lib.hid hZ2; have O2 := Lib.hid hr2; have P1 := Lib.hid (own_below O1.out hb2); have HB2 := Lib.hid hB2; clear hr2 hb2 hB2 hZ2)))
  all_goals
    rw [set2row Z2.out rfl]
    go_wp2_with fail
    refine bodyPost_ret (v := .agg (gv r ⟨A1, k1, A2, k2⟩)) (results_cell_row rfl _ _ (w.heap.size + 1) 26 (gv r ⟨A1, k1, A2, k2⟩) (0, 0) _ rfl (setRow_heap _ _ _ _ _ _ Z2.out) Try.underlying26 rfl (info26 _ _)) rfl ⟨⟨A1, k1, A2, k2⟩, rfl, ?_, ?_⟩
    · exact (Own.set (B := w.heap.size + 2) ⟨own_base P1.out (show w.heap.size + 2 ≤ W0.heap.size from lz1), own_base O2.out (show w.heap.size + 2 ≤ w1.heap.size from Nat.le_trans lz1 HB1.out.size)⟩ (by omega) _).base (by omega)
    · exact below_setRow (HZ.out.trans (HB2.out.mono (by omega))) (Nat.le_succ _) _

set_option maxRecDepth 100000 in
set_option maxHeartbeats 1000000 in
theorem copyOf_any (B : Nat) (nm : ByteArray) (r : Rg) (v : Vr) (w : World) (h : RL w B nm r v) (h1 : r.s.length ≤ 1000) (h2 : r.c.length ≤ 1000) :
    Calls Try.prog 49 #[.agg (gv r v)] w (CpPost nm r w) := by
  obtain ⟨hrow, hzr, hbz, hrl⟩ := cpstart nm B r v w h
  have HZ := Lib.hid hbz
  have HROW := Lib.hid hrow
  have HZR := Lib.hid hzr
  have HRL := Lib.hid hrl
  clear hbz hrow hzr hrl h
  go_enter Try.func49, Try.ntmps49
  go_wp2_with fail
  unfold zG at HZ HROW HZR HRL
  generalize (w.alloc (.cells (gv r v) 26)).alloc (.cells #[.slice none 0 0, .slice none 0 0] 26) = W0 at *
  have lz : w.heap.size < W0.heap.size := row_lt HROW.out
  have lz1 : w.heap.size + 1 < W0.heap.size := row_lt HZR.out
  obtain ⟨c0', c1'⟩ := gvCells HROW.out
  have d0' : W0.drew.cell? ⟨w.heap.size, 0, none⟩ = some (.slice v.A1 r.s.length v.c1) := c0'
  have d1' : W0.drew.cell? ⟨w.heap.size, 1, none⟩ = some (.slice v.A2 r.c.length v.c2) := c1'
  go_region_law (first
    | (go_simp; go_at_call 55; (with_reducible refine (clone60_any nm r.s B r.s.length v.c1 v.A1 _ ?_ h1).mono ?_); (first | exact HRL.out.r1 | exact HRL.out.drew.r1); (rintro e w1 ⟨A1, k1, rfl, hr1, hb1⟩; have hB1 : Below W0.heap.size W0 w1 := (by first | exact hb1 | exact (Below.refl _ W0).drew.trans hb1); obtain ⟨x0, x1⟩ := gvCells ((hB1.block w.heap.size lz).trans HROW.out); have O1 := Lib.hid hr1; have HB1 := Lib.hid hB1; clear hr1 hb1 hB1))
    | (go_simp; go_at_call 56; (with_reducible refine (clone29_any r.c B r.c.length v.c2 v.A2 _ ?_ h2).mono ?_); (first | exact (HRL.out.below HB1.out).r2); (rintro e w2 ⟨A2, k2, rfl, hr2, hb2⟩; have hB2 : Below W0.heap.size W0 w2 := HB1.out.trans (hb2.mono HB1.out.size); have hZ2 := (hB2.block (w.heap.size + 1) lz1).trans HZR.out; obtain ⟨y0, y1, y2, y3⟩ := zgCells hZ2; have Z2 := Lib.hid hZ2; have O2 := Lib.hid hr2; have P1 := Lib.hid (own_below O1.out hb2); have HB2 := Lib.hid hB2; clear hr2 hb2 hB2 hZ2)))
  all_goals
    rw [set2row Z2.out rfl]
    go_wp2_with fail
    refine bodyPost_ret (v := .agg (gv r ⟨A1, k1, A2, k2⟩)) (results_cell_row rfl _ _ (w.heap.size + 1) 26 (gv r ⟨A1, k1, A2, k2⟩) (0, 0) _ rfl (setRow_heap _ _ _ _ _ _ Z2.out) Try.underlying26 rfl (info26 _ _)) rfl ⟨⟨A1, k1, A2, k2⟩, rfl, ?_, ?_⟩
    · exact (Own.set (B := w.heap.size + 2) ⟨own_base P1.out (show w.heap.size + 2 ≤ W0.heap.size from lz1), own_base O2.out (show w.heap.size + 2 ≤ w1.heap.size from Nat.le_trans lz1 HB1.out.size)⟩ (by omega) _).base (by omega)
    · exact below_setRow (HZ.out.trans (HB2.out.mono (by omega))) (Nat.le_succ _) _

end Go.Proofs.Ytablgpcgfogfoaa.Rg
