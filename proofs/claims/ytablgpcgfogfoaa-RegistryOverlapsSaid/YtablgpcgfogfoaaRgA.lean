import Derived.Test.YtablgpcgfogfoaaRgMem
import Derived.Laws.RangeString
import Derived.Laws.RangeAny
namespace Go.Proofs.Ytablgpcgfogfoaa.Rg
open Go.RowKit
open Go.Proofs.Ytablgpcgfogfoaa.Tp
set_option linter.unusedVariables false

theorem nm_dec {nm : ByteArray} (h : Nm nm) : 1 ≤ nm.size ∧ nm.size ≤ 6 ∧ ∀ pos, pos < nm.size → ∃ z : Nat, 97 ≤ z ∧ z ≤ 122 ∧ Utf8.decode nm pos = (z, 1) := by
  rcases h with rfl | rfl
  · refine ⟨by decide, by decide, fun pos hp => ?_⟩
    have hp : pos < 1 := hp
    obtain rfl : pos = 0 := by omega
    exact ⟨97, by omega, by omega, by decide⟩
  · refine ⟨by decide, by decide, fun pos hp => ?_⟩
    have hp : pos < 6 := hp
    rcases (by omega : pos = 0 ∨ pos = 1 ∨ pos = 2 ∨ pos = 3 ∨ pos = 4 ∨ pos = 5) with rfl | rfl | rfl | rfl | rfl | rfl
    · exact ⟨105, by omega, by omega, by decide⟩
    · exact ⟨115, by omega, by omega, by decide⟩
    · exact ⟨115, by omega, by omega, by decide⟩
    · exact ⟨117, by omega, by omega, by decide⟩
    · exact ⟨101, by omega, by omega, by decide⟩
    · exact ⟨114, by omega, by omega, by decide⟩

set_option maxRecDepth 100000 in
set_option maxHeartbeats 400000 in
theorem isname_any (nm : ByteArray) (w : World) (h : Nm nm) : Calls Try.prog 35 #[.string nm] w fun e w' => e = .returned (.bool true) ∧ Below w.heap.size w w' := by
  obtain ⟨s1, s2, hd⟩ := nm_dec h
  have HD := Lib.hid hd
  clear h hd
  go_enter Try.func35, Try.ntmps35
  go_wp2
  go_loopw [] (fun w' => ∃ pos : Nat, w' = w.iter nm pos) (fun w' => nm.size - w'.iterPos w.heap.size)
  case atStart => exact ⟨0, rfl⟩
  case round =>
    obtain ⟨pos, rfl⟩ := hrel
    by_cases hp : pos < nm.size
    · obtain ⟨z, z1, z2, hz⟩ := HD.out pos hp
      have hnx : ∀ ty, (Instr.next (.pointer (some ⟨w.heap.size, 0, none⟩)) true ty).run Try.prog (w.iter nm pos) = _ := fun ty => run_next_any w nm pos ty hp
      rw [hz] at hnx
      have i1 : decide ((z : Int) < 97) = false := decide_eq_false (by omega)
      have i2 : decide ((122 : Int) < (z : Int)) = false := decide_eq_false (by omega)
      clear hz
      go_wp2
      exact ⟨⟨pos + 1, rfl⟩, by simp; omega⟩
    · have hnx : ∀ ty, (Instr.next (.pointer (some ⟨w.heap.size, 0, none⟩)) true ty).run Try.prog (w.iter nm pos) = _ := fun ty => run_next_end w nm pos ty hp
      have i1 : (1 : Int) ≤ (nm.size : Int) := by omega
      have i2 : (nm.size : Int) ≤ 40 := by omega
      go_wp2
      go_ret
      exact ⟨by first | rfl | simp, box_below w _⟩

theorem num_yes (n m : Nat) (w : World) (h : n < m) (hm : m ≤ 1000000) : Calls Try.prog 43 #[.int .i64 (n : Int), .int .i64 (m : Int)] w fun e w' => e = .returned (.bool true) ∧ w = w' := by
  have h0 : decide ((0 : Int) ≤ (n : Int)) = true := decide_eq_true (by omega)
  have h1 : decide (n < m) = true := decide_eq_true (by omega)
  have h2 : decide ((n : Int) < (m : Int)) = true := decide_eq_true (by omega)
  go_enter Try.func43, Try.ntmps43
  go_wp2
  go_ret
  exact ⟨by first | rfl | simp, rfl⟩
theorem num_24 (n : Nat) (w : World) (h : n < 24) : Calls Try.prog 43 #[.int .i64 (n : Int), .int .i64 24] w fun e w' => e = .returned (.bool true) ∧ w = w' := by
  have := num_yes n 24 w h (by omega)
  have e1 : ((24 : Nat) : Int) = 24 := rfl
  rwa [e1] at this

set_option maxRecDepth 100000 in
set_option maxHeartbeats 400000 in
theorem wiss_call (nm : ByteArray) (s : Nat) (w : World) (h : Nm nm) (h1 : 1 ≤ s) (h2 : s ≤ 2) : Calls Try.prog 34 #[.agg #[.string nm, .int .i64 (s : Int)]] w fun e w' => e = .returned (.bool false) ∧ Below w.heap.size w w' := by
  have HB := Lib.hid (box_below w (.cells #[.string nm, .int .i64 (s : Int)] 60))
  have R0 := Lib.hid (heap_alloc_new w (.cells #[.string nm, .int .i64 (s : Int)] 60))
  rcases (by omega : s = 1 ∨ s = 2) with rfl | rfl <;>
  · go_enter Try.func34, Try.ntmps34
    go_wp2_with fail
    refine (isname_any nm _ h).mono ?_
    rintro e w1 ⟨rfl, hb1⟩
    have k1 := (cell_of_row w1 w.heap.size 1 _ _ _ ((hb1.block _ (row_lt R0.out)).trans R0.out))
    have HB1 := Lib.hid (HB.out.trans (hb1.mono HB.out.size))
    clear hb1
    go_wp2_with fail
    go_ret
    exact ⟨by first | rfl | simp, HB1.out⟩

set_option maxRecDepth 100000 in
set_option maxHeartbeats 400000 in
theorem wiss_idx (nm : ByteArray) (l : List Nat) (A : Option Addr) (n c : Nat) (p : Nat → Bool) (w : World) (hn : n ≤ 1000) (h : Row w 0 2 A n (sv nm l))
    (hp : ∀ i, i < n → ∀ w', Below w.heap.size w w' → Calls Try.prog 34 (#[.agg #[.string nm, .int .i64 ((l.getD i 0 : Nat) : Int)]] ++ #[]) w' fun e w'' => e = .returned (.bool (p i)) ∧ Below w'.heap.size w' w'') :
    Calls Try.prog 50 #[.slice A n c, .func (.func 34) #[] #[]] w fun e w' => e = .returned (.int .i64 (fi p n 0)) ∧ Below w.heap.size w w' := by
  have H := Lib.hid h
  have HP := Lib.hid hp
  clear h hp
  go_enter Try.func50, Try.ntmps50
  go_wp2
  go_loopw [8] (fun i wr => ∃ k : Nat, k ≤ n ∧ i = .int .i64 k ∧ fi p n 0 = fi p (n - k) k ∧ Below w.heap.size w wr) (fun i _ => n - (intOf i).toNat)
  case atStart => exact ⟨0, by omega, rfl, rfl, Below.refl _ _⟩
  case round =>
    obtain ⟨k, hk, rfl, hfi, hbl⟩ := hrel
    have HBL := Lib.hid hbl
    have HF := Lib.hid hfi
    clear hfi
    by_cases hlt : k < n
    · obtain ⟨b, off, rfl, hB, hbk, y0, y1⟩ := (H.out.below hbl).iss hlt
      have HC := Lib.hid (HP.out k hlt wr hbl)
      have HFI := Lib.hid (fi_step p n k hlt)
      clear hbl
      cases hpk : p k with
      | true =>
        rw [hpk] at HC
        have HPK := Lib.hid hpk
        clear hpk
        go_wp2_with (go_at_call 34; refine HC.out.mono ?_; rintro e w2 ⟨rfl, hb2⟩; have HB2 := Lib.hid (HBL.out.trans (hb2.mono HBL.out.size)); clear hb2)
        go_ret
        refine ⟨?_, HB2.out⟩
        rw [HF.out, HFI.out.1 HPK.out]
        rfl
      | false =>
        rw [hpk] at HC
        have HPK := Lib.hid hpk
        clear hpk
        go_wp2_with (go_at_call 34; refine HC.out.mono ?_; rintro e w2 ⟨rfl, hb2⟩; have HB2 := Lib.hid (HBL.out.trans (hb2.mono HBL.out.size)); clear hb2)
        exact ⟨⟨k + 1, by omega, by go_num, by rw [HF.out, HFI.out.2 HPK.out], HB2.out⟩, by simp [intOf]; omega⟩
    · obtain rfl : n = k := by omega
      go_wp2
      go_ret
      exact ⟨by rw [HF.out, Nat.sub_self]; rfl, HBL.out⟩

set_option maxRecDepth 100000 in
set_option maxHeartbeats 400000 in
theorem wiss_any (nm : ByteArray) (l : List Nat) (A : Option Addr) (n c : Nat) (p : Nat → Bool) (w : World) (hn : n ≤ 1000) (h : Row w 0 2 A n (sv nm l))
    (hp : ∀ i, i < n → ∀ w', Below w.heap.size w w' → Calls Try.prog 34 (#[.agg #[.string nm, .int .i64 ((l.getD i 0 : Nat) : Int)]] ++ #[]) w' fun e w'' => e = .returned (.bool (p i)) ∧ Below w'.heap.size w' w'') :
    Calls Try.prog 38 #[.slice A n c, .func (.func 34) #[] #[]] w fun e w' => e = .returned (.bool (anyB p n)) ∧ Below w.heap.size w w' := by
  have HC := Lib.hid (wiss_idx nm l A n c p w hn h hp)
  clear h hp
  cases ha : anyB p n with
  | false =>
    rw [fi_none p n ha] at HC
    clear ha
    go_enter Try.func38, Try.ntmps38
    go_wp2_with (go_at_call 50; refine HC.out.mono ?_; rintro e w' ⟨rfl, hb⟩; have HB := Lib.hid hb; clear hb)
    go_ret
    exact ⟨rfl, HB.out⟩
  | true =>
    obtain ⟨q, hq⟩ := fi_some p n ha
    rw [hq] at HC
    clear ha hq
    have hd : decide ((0 : Int) ≤ (q : Int)) = true := decide_eq_true (by omega)
    go_enter Try.func38, Try.ntmps38
    go_wp2_with (go_at_call 50; refine HC.out.mono ?_; rintro e w' ⟨rfl, hb⟩; have HB := Lib.hid hb; clear hb)
    go_ret
    exact ⟨by first | rfl | simp, HB.out⟩

set_option maxRecDepth 100000 in
set_option maxHeartbeats 1000000 in
theorem fits_any (r : Rg) (v : Vr) (x : Cr) (w : World) (hx : Cw r x) (hr : r.s.length ≤ 8) :
    Calls Try.prog 37 #[.agg (gv r v), .agg (kc x)] w fun e w' => e = .returned (.bool true) ∧ Below w.heap.size w w' := by
  have hbz := (box_below w (.cells (gv r v) 26)).trans ((box_below (w.alloc (.cells (gv r v) 26)) (.cells (kc x) 29)).mono (by simp))
  have HBZ := Lib.hid hbz
  obtain ⟨g0, g1⟩ := gvCells (heap_alloc2_old w (.cells (gv r v) 26) (.cells (kc x) 29))
  obtain ⟨y0, y1, y2, y3, y4⟩ := kcCells (heap_alloc2_new w (.cells (gv r v) 26) (.cells (kc x) 29))
  obtain ⟨i1, i2, i3, i4, i5⟩ := hx
  have d1 : (0 : Int) ≤ (x.f : Int) := by omega
  have d2 : (x.f : Int) < (x.u : Int) := by omega
  have d3 : (x.u : Int) ≤ 1099511627777 := by omega
  clear hbz
  go_enter Try.func37, Try.ntmps37
  go_wp2_with (first
    | (go_at_call 43; (with_reducible refine (num_yes x.i r.s.length _ i1 (by omega)).mono ?_); rintro e w2 ⟨rfl, rfl⟩)
    | (go_at_call 43; (with_reducible refine (num_24 x.h _ i3).mono ?_); rintro e w2 ⟨rfl, rfl⟩))
  go_ret
  exact ⟨by first | rfl | simp, HBZ.out⟩

set_option maxRecDepth 100000 in
set_option maxHeartbeats 400000 in
theorem wrong_call (r : Rg) (v : Vr) (x : Cr) (g : Nat) (w : World) (hx : Cw r x) (hr : r.s.length ≤ 8) (hg : w.heap[g]? = some (.cells (gv r v) 26 (0, 0))) :
    Calls Try.prog 36 #[.agg #[.int .i64 (x.i : Int), .int .u64 (x.p : Int), .int .i64 (x.h : Int), .int .i64 (x.f : Int), .int .i64 (x.u : Int)], .pointer (some ⟨g, 0, none⟩)] w fun e w' => e = .returned (.bool false) ∧ Below w.heap.size w w' := by
  have HB := Lib.hid (box_below w (.cells (kc x) 29))
  obtain ⟨g0, g1⟩ := gvCells ((heap_alloc_old w (.cells (kc x) 29) (row_lt hg)).trans hg)
  obtain ⟨y0, y1, y2, y3, y4⟩ := kcCells (heap_alloc_new w (.cells (kc x) 29))
  have HF := Lib.hid (fun w' => fits_any r v x w' hx hr)
  clear hg
  show Calls Try.prog 36 #[.agg (kc x), .pointer (some ⟨g, 0, none⟩)] w _
  go_enter Try.func36, Try.ntmps36
  go_wp2_with fail
  refine (HF.out _).mono ?_
  rintro e w1 ⟨rfl, hb1⟩
  have HB1 := Lib.hid (HB.out.trans (hb1.mono HB.out.size))
  clear hb1 g0 g1 y0 y1 y2 y3 y4
  go_wp2_with fail
  go_ret
  exact ⟨rfl, HB1.out⟩

set_option maxRecDepth 100000 in
set_option maxHeartbeats 400000 in
theorem wrong_idx (l : List Cr) (g : Nat) (A : Option Addr) (n c : Nat) (p : Nat → Bool) (w : World) (hn : n ≤ 1000) (h : Row w 0 5 A n (kv l))
    (hp : ∀ i, i < n → ∀ w', Below w.heap.size w w' → Calls Try.prog 36 (#[.agg #[.int .i64 (((l.getD i c0).i : Nat) : Int), .int .u64 (((l.getD i c0).p : Nat) : Int), .int .i64 (((l.getD i c0).h : Nat) : Int), .int .i64 (((l.getD i c0).f : Nat) : Int), .int .i64 (((l.getD i c0).u : Nat) : Int)]] ++ #[.pointer (some ⟨g, 0, none⟩)]) w' fun e w'' => e = .returned (.bool (p i)) ∧ Below w'.heap.size w' w'') :
    Calls Try.prog 51 #[.slice A n c, .func (.func 36) #[] #[.pointer (some ⟨g, 0, none⟩)]] w fun e w' => e = .returned (.int .i64 (fi p n 0)) ∧ Below w.heap.size w w' := by
  have H := Lib.hid h
  have HP := Lib.hid hp
  clear h hp
  go_enter Try.func51, Try.ntmps51
  go_wp2
  go_loopw [8] (fun i wr => ∃ k : Nat, k ≤ n ∧ i = .int .i64 k ∧ fi p n 0 = fi p (n - k) k ∧ Below w.heap.size w wr) (fun i _ => n - (intOf i).toNat)
  case atStart => exact ⟨0, by omega, rfl, rfl, Below.refl _ _⟩
  case round =>
    obtain ⟨k, hk, rfl, hfi, hbl⟩ := hrel
    have HBL := Lib.hid hbl
    have HF := Lib.hid hfi
    clear hfi
    by_cases hlt : k < n
    · obtain ⟨b, off, rfl, hB, hbk, y0, y1, y2, y3, y4⟩ := (H.out.below hbl).crd hlt
      have HC := Lib.hid (HP.out k hlt wr hbl)
      have HFI := Lib.hid (fi_step p n k hlt)
      clear hbl
      cases hpk : p k with
      | true =>
        rw [hpk] at HC
        have HPK := Lib.hid hpk
        clear hpk
        go_wp2_with (go_at_call 36; refine HC.out.mono ?_; rintro e w2 ⟨rfl, hb2⟩; have HB2 := Lib.hid (HBL.out.trans (hb2.mono HBL.out.size)); clear hb2)
        go_ret
        refine ⟨?_, HB2.out⟩
        rw [HF.out, HFI.out.1 HPK.out]
        rfl
      | false =>
        rw [hpk] at HC
        have HPK := Lib.hid hpk
        clear hpk
        go_wp2_with (go_at_call 36; refine HC.out.mono ?_; rintro e w2 ⟨rfl, hb2⟩; have HB2 := Lib.hid (HBL.out.trans (hb2.mono HBL.out.size)); clear hb2)
        exact ⟨⟨k + 1, by omega, by go_num, by rw [HF.out, HFI.out.2 HPK.out], HB2.out⟩, by simp [intOf]; omega⟩
    · obtain rfl : n = k := by omega
      go_wp2
      go_ret
      exact ⟨by rw [HF.out, Nat.sub_self]; rfl, HBL.out⟩

set_option maxRecDepth 100000 in
set_option maxHeartbeats 400000 in
theorem wrong_any (l : List Cr) (g : Nat) (A : Option Addr) (n c : Nat) (p : Nat → Bool) (w : World) (hn : n ≤ 1000) (h : Row w 0 5 A n (kv l))
    (hp : ∀ i, i < n → ∀ w', Below w.heap.size w w' → Calls Try.prog 36 (#[.agg #[.int .i64 (((l.getD i c0).i : Nat) : Int), .int .u64 (((l.getD i c0).p : Nat) : Int), .int .i64 (((l.getD i c0).h : Nat) : Int), .int .i64 (((l.getD i c0).f : Nat) : Int), .int .i64 (((l.getD i c0).u : Nat) : Int)]] ++ #[.pointer (some ⟨g, 0, none⟩)]) w' fun e w'' => e = .returned (.bool (p i)) ∧ Below w'.heap.size w' w'') :
    Calls Try.prog 39 #[.slice A n c, .func (.func 36) #[] #[.pointer (some ⟨g, 0, none⟩)]] w fun e w' => e = .returned (.bool (anyB p n)) ∧ Below w.heap.size w w' := by
  have HC := Lib.hid (wrong_idx l g A n c p w hn h hp)
  clear h hp
  cases ha : anyB p n with
  | false =>
    rw [fi_none p n ha] at HC
    clear ha
    go_enter Try.func39, Try.ntmps39
    go_wp2_with (go_at_call 51; refine HC.out.mono ?_; rintro e w' ⟨rfl, hb⟩; have HB := Lib.hid hb; clear hb)
    go_ret
    exact ⟨rfl, HB.out⟩
  | true =>
    obtain ⟨q, hq⟩ := fi_some p n ha
    rw [hq] at HC
    clear ha hq
    have hd : decide ((0 : Int) ≤ (q : Int)) = true := decide_eq_true (by omega)
    go_enter Try.func39, Try.ntmps39
    go_wp2_with (go_at_call 51; refine HC.out.mono ?_; rintro e w' ⟨rfl, hb⟩; have HB := Lib.hid hb; clear hb)
    go_ret
    exact ⟨by first | rfl | simp, HB.out⟩

set_option maxRecDepth 100000 in
set_option maxHeartbeats 400000 in
theorem isvalid_any (x : Cr) (t : Nat) (w : World) : Calls Try.prog 45 #[.agg (kc x), .int .i64 (t : Int)] w fun e w' => e = .returned (.bool (val x t)) ∧ Below w.heap.size w w' := by
  have HB := Lib.hid (box_below w (.cells (kc x) 29))
  obtain ⟨y0, y1, y2, y3, y4⟩ := kcCells (heap_alloc_new w (.cells (kc x) 29))
  have hv : val x t = (decide (x.f ≤ t) && decide (t < x.u)) := rfl
  rw [hv]
  clear hv
  by_cases h1 : x.f ≤ t
  · have d1 : decide ((x.f : Int) ≤ (t : Int)) = true := decide_eq_true (by omega)
    by_cases h2 : t < x.u
    · have d2 : decide ((t : Int) < (x.u : Int)) = true := decide_eq_true (by omega)
      go_enter Try.func45, Try.ntmps45
      go_wp2
      go_ret
      exact ⟨by first | rfl | simp [h1, h2], HB.out⟩
    · have d2 : decide ((t : Int) < (x.u : Int)) = false := decide_eq_false (by omega)
      go_enter Try.func45, Try.ntmps45
      go_wp2
      go_ret
      exact ⟨by first | rfl | simp [h1, h2], HB.out⟩
  · have d1 : decide ((x.f : Int) ≤ (t : Int)) = false := decide_eq_false (by omega)
    go_enter Try.func45, Try.ntmps45
    go_wp2
    go_ret
    exact ⟨by first | rfl | simp [h1], HB.out⟩

set_option maxRecDepth 100000 in
set_option maxHeartbeats 400000 in
theorem hit_call (x : Cr) (i h t gi gh gt : Nat) (w : World) (hi : w.cell? ⟨gi, 0, none⟩ = some (.int .i64 (i : Int))) (hh : w.cell? ⟨gh, 0, none⟩ = some (.int .i64 (h : Int))) (ht : w.cell? ⟨gt, 0, none⟩ = some (.int .i64 (t : Int))) (li : gi < w.heap.size) (lh : gh < w.heap.size) (lt : gt < w.heap.size) :
    Calls Try.prog 52 #[.agg #[.int .i64 (x.i : Int), .int .u64 (x.p : Int), .int .i64 (x.h : Int), .int .i64 (x.f : Int), .int .i64 (x.u : Int)], .pointer (some ⟨gi, 0, none⟩), .pointer (some ⟨gh, 0, none⟩), .pointer (some ⟨gt, 0, none⟩)] w fun e w' => e = .returned (.bool (hit x i h t)) ∧ Below w.heap.size w w' := by
  have HB := Lib.hid (box_below w (.cells (kc x) 29))
  obtain ⟨y0, y1, y2, y3, y4⟩ := kcCells (heap_alloc_new w (.cells (kc x) 29))
  have k1 := (World.cell?_alloc_lt w (.cells (kc x) 29) ⟨gi, 0, none⟩ li).trans hi
  have k2 := (World.cell?_alloc_lt w (.cells (kc x) 29) ⟨gh, 0, none⟩ lh).trans hh
  have k3 := (World.cell?_alloc_lt w (.cells (kc x) 29) ⟨gt, 0, none⟩ lt).trans ht
  have hv : hit x i h t = (x.i == i && x.h == h && val x t) := rfl
  rw [hv]
  have HV := Lib.hid (fun w' => isvalid_any x t w')
  clear hv hi hh ht
  show Calls Try.prog 52 #[.agg (kc x), .pointer (some ⟨gi, 0, none⟩), .pointer (some ⟨gh, 0, none⟩), .pointer (some ⟨gt, 0, none⟩)] w _
  by_cases h1 : x.i = i
  · have d1 : ((x.i : Int) == (i : Int)) = true := by rw [h1]; simp
    have e1 : (x.i == i) = true := by rw [h1]; simp
    rw [e1]
    clear e1 h1
    by_cases h2 : x.h = h
    · have d2 : ((x.h : Int) == (h : Int)) = true := by rw [h2]; simp
      have e2 : (x.h == h) = true := by rw [h2]; simp
      rw [e2]
      clear e2 h2
      go_enter Try.func52, Try.ntmps52
      go_wp2_with fail
      refine (HV.out _).mono ?_
      rintro e w1 ⟨rfl, hb1⟩
      have HB1 := Lib.hid (HB.out.trans (hb1.mono HB.out.size))
      clear hb1
      go_wp2_with fail
      go_ret
      exact ⟨by first | rfl | simp, HB1.out⟩
    · have d2 : ((x.h : Int) == (h : Int)) = false := beq_eq_false_iff_ne.2 (by omega)
      have e2 : (x.h == h) = false := beq_eq_false_iff_ne.2 h2
      rw [e2]
      go_enter Try.func52, Try.ntmps52
      go_wp2_with fail
      go_ret
      exact ⟨by first | rfl | simp, HB.out⟩
  · have d1 : ((x.i : Int) == (i : Int)) = false := beq_eq_false_iff_ne.2 (by omega)
    have e1 : (x.i == i) = false := beq_eq_false_iff_ne.2 h1
    rw [e1]
    go_enter Try.func52, Try.ntmps52
    go_wp2_with fail
    go_ret
    exact ⟨by first | rfl | simp, HB.out⟩

set_option maxRecDepth 100000 in
set_option maxHeartbeats 400000 in
theorem fp_call (x : Cr) (f gf : Nat) (w : World) (hf : w.cell? ⟨gf, 0, none⟩ = some (.int .u64 (f : Int))) (lf : gf < w.heap.size) :
    Calls Try.prog 48 #[.agg #[.int .i64 (x.i : Int), .int .u64 (x.p : Int), .int .i64 (x.h : Int), .int .i64 (x.f : Int), .int .i64 (x.u : Int)], .pointer (some ⟨gf, 0, none⟩)] w fun e w' => e = .returned (.bool (x.p == f)) ∧ Below w.heap.size w w' := by
  have HB := Lib.hid (box_below w (.cells (kc x) 29))
  obtain ⟨y0, y1, y2, y3, y4⟩ := kcCells (heap_alloc_new w (.cells (kc x) 29))
  have k1 := (World.cell?_alloc_lt w (.cells (kc x) 29) ⟨gf, 0, none⟩ lf).trans hf
  have hv : ((x.p : Int) == (f : Int)) = (x.p == f) := by
    by_cases h : x.p = f
    · rw [h]; simp
    · rw [beq_eq_false_iff_ne.2 h, beq_eq_false_iff_ne.2 (by omega)]
  clear hf
  generalize (x.p == f) = b at *
  show Calls Try.prog 48 #[.agg (kc x), .pointer (some ⟨gf, 0, none⟩)] w _
  go_enter Try.func48, Try.ntmps48
  go_wp2
  go_ret
  exact ⟨by first | rfl | simp [hv], HB.out⟩

end Go.Proofs.Ytablgpcgfogfoaa.Rg
