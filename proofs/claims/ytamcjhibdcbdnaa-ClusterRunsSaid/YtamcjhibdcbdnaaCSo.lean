import Derived.Test.YtamcjhibdcbdnaaCNh
namespace Go.Proofs.Ytamcjhibdcbdnaa.Cl
open Go.RowKit
open Go.Proofs.Ytamcjhibdcbdnaa.Tp
set_option linter.unusedVariables false

theorem none_any (c : Cl) (b : Nat) : ∀ n, none_ c b n = !anyB (fun i => acc c i b) n
  | 0 => rfl
  | n + 1 => by rw [none_, anyB, none_any c b n, Bool.not_or]

set_option maxRecDepth 100000 in
set_option maxHeartbeats 600000 in
theorem som_call (m B i b g gb : Nat) (c : Cl) (v : Vl) (w : World) (h : CL w B c v) (hok : Ok m c) (hm : m ≤ 100) (hi : i < c.r.length) (hb : b ≤ 3) (hg : w.heap[g]? = some (.cells (cv c v) 25 (0, 0))) (hgb : w.cell? ⟨gb, 0, none⟩ = some (.int .i64 (b : Int))) (lgb : gb < w.heap.size) :
    Calls Try.prog 82 #[.agg #[.int .i64 (((rd c.r i).1 : Nat) : Int), .bool (rd c.r i).2], .pointer (some ⟨g, 0, none⟩), .pointer (some ⟨gb, 0, none⟩)] w fun e w' => e = .returned (.bool (acc c i b)) ∧ Below w.heap.size w w' := by
  have HB := Lib.hid (box_below w (.cells #[.int .i64 (((rd c.r i).1 : Nat) : Int), .bool (rd c.r i).2] 60))
  have hac : ∀ w', Below w.heap.size w w' → Calls Try.prog 67 #[.agg #[.bool c.f, .slice v.A1 c.s.length v.c1, .slice v.A2 c.r.length v.c2, .slice v.A3 c.p.length v.c3], .agg #[.int .i64 (((rd c.r i).1 : Nat) : Int), .bool (rd c.r i).2], .int .i64 (b : Int)] w' fun e w'' => e = .returned (.bool (acc c i b)) ∧ Below w'.heap.size w' w'' := fun w' hw => accepts_any m B i b c v w' (h.below hw) hok hm hi hb
  have HAC := Lib.hid hac
  have hall := fun o => cvCells _ _ _ _ _ _ ((heap_alloc_old w o (row_lt hg)).trans hg)
  have c0 := fun o => (hall o).1
  have c1 := fun o => (hall o).2.1
  have c2 := fun o => (hall o).2.2.1
  have c3 := fun o => (hall o).2.2.2
  have k1 : ∀ o, (w.alloc o).cell? ⟨gb, 0, none⟩ = some (.int .i64 (b : Int)) := fun o => (World.cell?_alloc_lt _ _ _ lgb).trans hgb
  clear hac hall hg hgb h hok
  generalize (rd c.r i).1 = G at *
  generalize (rd c.r i).2 = sv at *
  generalize acc c i b = ans at *
  go_enter Try.func82, Try.ntmps82
  go_wp2_with (go_at_call 67; refine (HAC.out _ HB.out).mono ?_; rintro e w' ⟨rfl, hb⟩; have HB2 := Lib.hid (HB.out.trans (hb.mono HB.out.size)); clear hb)
  go_ret
  exact ⟨rfl, HB2.out⟩

set_option maxRecDepth 100000 in
set_option maxHeartbeats 400000 in
theorem som_idx (l : List (Nat × Bool)) (g gb : Nat) (A : Option Addr) (n c : Nat) (p : Nat → Bool) (w : World) (hn : n ≤ 1000) (h : Row w 0 2 A n (rv l))
    (hp : ∀ i, i < n → ∀ w', Below w.heap.size w w' → Calls Try.prog 82 (#[.agg #[.int .i64 (((rd l i).1 : Nat) : Int), .bool (rd l i).2]] ++ #[.pointer (some ⟨g, 0, none⟩), .pointer (some ⟨gb, 0, none⟩)]) w' fun e w'' => e = .returned (.bool (p i)) ∧ Below w'.heap.size w' w'') :
    Calls Try.prog 72 #[.slice A n c, .func (.func 82) #[] #[.pointer (some ⟨g, 0, none⟩), .pointer (some ⟨gb, 0, none⟩)]] w fun e w' => e = .returned (.int .i64 (fi p n 0)) ∧ Below w.heap.size w w' := by
  have H := Lib.hid h
  have HP := Lib.hid hp
  clear h hp
  go_enter Try.func72, Try.ntmps72
  go_wp2
  go_loopw [8] (fun i wr => ∃ k : Nat, k ≤ n ∧ i = .int .i64 k ∧ fi p n 0 = fi p (n - k) k ∧ Below w.heap.size w wr) (fun i _ => n - (intOf i).toNat)
  case atStart => exact ⟨0, by omega, rfl, rfl, Below.refl _ _⟩
  case round =>
    obtain ⟨k, hk, rfl, hfi, hbl⟩ := hrel
    have HBL := Lib.hid hbl
    have HF := Lib.hid hfi
    clear hfi
    by_cases hlt : k < n
    · obtain ⟨b, off, rfl, hB, hbk, c0, c1⟩ := (H.out.below hbl).rep hlt
      have HC := Lib.hid (HP.out k hlt wr hbl)
      have HFI := Lib.hid (fi_step p n k hlt)
      clear hbl
      cases hpk : p k with
      | true =>
        rw [hpk] at HC
        have HPK := Lib.hid hpk
        clear hpk
        go_wp2_with (go_at_call 82; refine HC.out.mono ?_; rintro e w2 ⟨rfl, hb2⟩; have HB2 := Lib.hid (HBL.out.trans (hb2.mono HBL.out.size)); clear hb2)
        go_ret
        refine ⟨?_, HB2.out⟩
        rw [HF.out, HFI.out.1 HPK.out]
        rfl
      | false =>
        rw [hpk] at HC
        have HPK := Lib.hid hpk
        clear hpk
        go_wp2_with (go_at_call 82; refine HC.out.mono ?_; rintro e w2 ⟨rfl, hb2⟩; have HB2 := Lib.hid (HBL.out.trans (hb2.mono HBL.out.size)); clear hb2)
        exact ⟨⟨k + 1, by omega, by go_num, by rw [HF.out, HFI.out.2 HPK.out], HB2.out⟩, by simp [intOf]; omega⟩
    · obtain rfl : n = k := by omega
      go_wp2
      go_ret
      exact ⟨by rw [HF.out, Nat.sub_self]; rfl, HBL.out⟩

set_option maxRecDepth 100000 in
set_option maxHeartbeats 400000 in
theorem som_any (l : List (Nat × Bool)) (g gb : Nat) (A : Option Addr) (n c : Nat) (p : Nat → Bool) (w : World) (hn : n ≤ 1000) (h : Row w 0 2 A n (rv l))
    (hp : ∀ i, i < n → ∀ w', Below w.heap.size w w' → Calls Try.prog 82 (#[.agg #[.int .i64 (((rd l i).1 : Nat) : Int), .bool (rd l i).2]] ++ #[.pointer (some ⟨g, 0, none⟩), .pointer (some ⟨gb, 0, none⟩)]) w' fun e w'' => e = .returned (.bool (p i)) ∧ Below w'.heap.size w' w'') :
    Calls Try.prog 62 #[.slice A n c, .func (.func 82) #[] #[.pointer (some ⟨g, 0, none⟩), .pointer (some ⟨gb, 0, none⟩)]] w fun e w' => e = .returned (.bool (anyB p n)) ∧ Below w.heap.size w w' := by
  have HC := Lib.hid (som_idx l g gb A n c p w hn h hp)
  clear h hp
  cases ha : anyB p n with
  | false =>
    rw [fi_none p n ha] at HC
    clear ha
    go_enter Try.func62, Try.ntmps62
    go_wp2_with (go_at_call 72; refine HC.out.mono ?_; rintro e w' ⟨rfl, hb⟩; have HB := Lib.hid hb; clear hb)
    go_ret
    exact ⟨rfl, HB.out⟩
  | true =>
    obtain ⟨q, hq⟩ := fi_some p n ha
    rw [hq] at HC
    clear ha hq
    have hd : decide ((0 : Int) ≤ (q : Int)) = true := decide_eq_true (by omega)
    go_enter Try.func62, Try.ntmps62
    go_wp2_with (go_at_call 72; refine HC.out.mono ?_; rintro e w' ⟨rfl, hb⟩; have HB := Lib.hid hb; clear hb)
    go_ret
    exact ⟨by first | rfl | simp, HB.out⟩

set_option maxRecDepth 100000 in
set_option maxHeartbeats 600000 in
theorem someAccepts_any (m B b : Nat) (c : Cl) (v : Vl) (w : World) (h : CL w B c v) (hok : Ok m c) (hm : m ≤ 100) (hb : b ≤ 3) :
    Calls Try.prog 68 #[.agg (cv c v), .int .i64 (b : Int)] w fun e w' => e = .returned (.bool (anyB (fun i => acc c i b) c.r.length)) ∧ Below w.heap.size w w' := by
  have hbz := (box_below w (.cells (cv c v) 25)).trans ((box_below (w.alloc (.cells (cv c v) 25)) (.cells #[.int .i64 (b : Int)] 3)).mono (by simp))
  have hr0 := heap_alloc2_old w (.cells (cv c v) 25) (.cells #[.int .i64 (b : Int)] 3)
  have hr1 := heap_alloc2_new w (.cells (cv c v) 25) (.cells #[.int .i64 (b : Int)] 3)
  have hb1 := cell_of_row _ _ 0 _ _ _ hr1
  have r2 := hok.r2
  have hca : ∀ i, i < c.r.length → ∀ w', Below ((w.alloc (.cells (cv c v) 25)).alloc (.cells #[.int .i64 (b : Int)] 3)).heap.size ((w.alloc (.cells (cv c v) 25)).alloc (.cells #[.int .i64 (b : Int)] 3)) w' → Calls Try.prog 82 (#[.agg #[.int .i64 (((rd c.r i).1 : Nat) : Int), .bool (rd c.r i).2]] ++ #[.pointer (some ⟨w.heap.size, 0, none⟩), .pointer (some ⟨w.heap.size + 1, 0, none⟩)]) w' fun e w'' => e = .returned (.bool (acc c i b)) ∧ Below w'.heap.size w' w'' := fun i hi w' hw =>
    som_call m B i b w.heap.size (w.heap.size + 1) c v w' (h.below (hbz.trans (hw.mono (by simp; omega)))) hok hm hi hb ((hw.block _ (by simp; omega)).trans hr0) ((hw.cell (by simp)).trans hb1) (by have := hw.size; simp at this; omega)
  have HSA := Lib.hid (som_any c.r w.heap.size (w.heap.size + 1) v.A2 c.r.length v.c2 (fun i => acc c i b) _ (by omega) (((h.below hbz).r2).base (Nat.zero_le _)) hca)
  have HBZ := Lib.hid hbz
  obtain ⟨c0, c1, c2, c3⟩ := cvCells _ _ _ _ _ _ hr0
  clear h hok hbz hr0 hr1 hca
  generalize anyB (fun i => acc c i b) c.r.length = ans at *
  go_enter Try.func68, Try.ntmps68
  go_wp2_with (go_at_call 62; refine HSA.out.mono ?_; rintro e w' ⟨rfl, hb⟩; have HB2 := Lib.hid (HBZ.out.trans (hb.mono HBZ.out.size)); clear hb)
  go_ret
  exact ⟨rfl, HB2.out⟩

end Go.Proofs.Ytamcjhibdcbdnaa.Cl
