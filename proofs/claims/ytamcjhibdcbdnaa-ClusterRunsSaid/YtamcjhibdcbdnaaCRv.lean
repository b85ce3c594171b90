import Derived.Test.YtamcjhibdcbdnaaCLx
namespace Go.Proofs.Ytamcjhibdcbdnaa.Cl
open Go.RowKit
open Go.Proofs.Ytamcjhibdcbdnaa.Tp
set_option linter.unusedVariables false

set_option maxRecDepth 100000 in
set_option maxHeartbeats 600000 in
theorem has_call (m B j b g gb : Nat) (c : Cl) (v : Vl) (w : World) (h : CL w B c v) (hok : Ok m c) (hm : m ≤ 100) (hj : j < c.s.length) (hb : b ≤ 3) (hg : w.heap[g]? = some (.cells (cv c v) 25 (0, 0))) (hgb : w.cell? ⟨gb, 0, none⟩ = some (.int .i64 (b : Int))) :
    Calls Try.prog 70 #[.int .i64 (j : Int), .pointer (some ⟨g, 0, none⟩), .pointer (some ⟨gb, 0, none⟩)] w fun e w' => e = .returned (.bool (has (c.s.getD j 0) b)) ∧ Below w.heap.size w w' := by
  have s2 := hok.s2
  have hs := hok.sb j hj
  obtain ⟨c0, c1, c2, c3⟩ := cvCells _ _ _ _ _ _ hg
  obtain ⟨b1, off1, hA1, -, -, t0⟩ := h.r1.int hj
  rw [hA1] at c1
  have hd := has_dec (c.s.getD j 0) b hs hb
  have hd2 : (bits .and .i64 ((c.s.getD j 0 : Nat) : Int) (b : Int) != 0) = has (c.s.getD j 0) b := by rw [bne, hd, Bool.not_not]
  have i0 : (0 : Int) ≤ (j : Int) := by omega
  have i1 : (j : Int) < (c.s.length : Int) := by omega
  clear hd h hok hA1 hg
  generalize has (c.s.getD j 0) b = H at *
  generalize c.s.getD j 0 = x at *
  go_enter Try.func70, Try.ntmps70
  go_wp2_with fail
  go_quiet (fail)
  go_wp2_with fail
  go_ret
  exact ⟨by first | rfl | simp [hd2], ⟨rfl, rfl, rfl, Nat.le_refl _, fun _ _ => rfl⟩⟩

theorem prodapply_x {m B : Nat} {c : Cl} {v : Vl} {x : Ev} {w : World} (h : CL w B c v) (hok : Ok m c) (hg : Good c x) (hm : m ≤ 90) : Calls Try.prog 24 #[.agg #[.bool c.f, .slice v.A1 c.s.length v.c1, .slice v.A2 c.r.length v.c2, .slice v.A3 c.p.length v.c3], .agg #[.int .i64 (x.k : Int), .int .i64 (x.i : Int), .int .i64 (x.q : Int), .int .i64 (x.b : Int)]] w (APost c x w) := apply_any m B c v x w h hok hm hg

set_option maxRecDepth 100000 in
set_option maxHeartbeats 400000 in
theorem has_idx (l : List Nat) (g gb : Nat) (A : Option Addr) (n c : Nat) (p : Nat → Bool) (w : World) (hn : n ≤ 1000) (h : Row w 0 1 A n (iv l))
    (hp : ∀ i, i < n → ∀ w', Below w.heap.size w w' → Calls Try.prog 70 (#[.int .i64 ((l.getD i 0 : Nat) : Int)] ++ #[.pointer (some ⟨g, 0, none⟩), .pointer (some ⟨gb, 0, none⟩)]) w' fun e w'' => e = .returned (.bool (p i)) ∧ Below w'.heap.size w' w'') :
    Calls Try.prog 71 #[.slice A n c, .func (.func 70) #[] #[.pointer (some ⟨g, 0, none⟩), .pointer (some ⟨gb, 0, none⟩)]] w fun e w' => e = .returned (.int .i64 (fi p n 0)) ∧ Below w.heap.size w w' := by
  have H := Lib.hid h
  have HP := Lib.hid hp
  clear h hp
  go_enter Try.func71, Try.ntmps71
  go_wp2
  go_loopw [8] (fun i wr => ∃ k : Nat, k ≤ n ∧ i = .int .i64 k ∧ fi p n 0 = fi p (n - k) k ∧ Below w.heap.size w wr) (fun i _ => n - (intOf i).toNat)
  case atStart => exact ⟨0, by omega, rfl, rfl, Below.refl _ _⟩
  case round =>
    obtain ⟨k, hk, rfl, hfi, hbl⟩ := hrel
    have HBL := Lib.hid hbl
    have HF := Lib.hid hfi
    clear hfi
    by_cases hlt : k < n
    · obtain ⟨b, off, rfl, hB, hbk, c0⟩ := (H.out.below hbl).int hlt
      have HC := Lib.hid (HP.out k hlt wr hbl)
      have HFI := Lib.hid (fi_step p n k hlt)
      clear hbl
      cases hpk : p k with
      | true =>
        rw [hpk] at HC
        have HPK := Lib.hid hpk
        clear hpk
        go_wp2_with (go_at_call 70; refine HC.out.mono ?_; rintro e w2 ⟨rfl, hb2⟩; have HB2 := Lib.hid (HBL.out.trans (hb2.mono HBL.out.size)); clear hb2)
        go_ret
        refine ⟨?_, HB2.out⟩
        rw [HF.out, HFI.out.1 HPK.out]
        rfl
      | false =>
        rw [hpk] at HC
        have HPK := Lib.hid hpk
        clear hpk
        go_wp2_with (go_at_call 70; refine HC.out.mono ?_; rintro e w2 ⟨rfl, hb2⟩; have HB2 := Lib.hid (HBL.out.trans (hb2.mono HBL.out.size)); clear hb2)
        exact ⟨⟨k + 1, by omega, by go_num, by rw [HF.out, HFI.out.2 HPK.out], HB2.out⟩, by simp [intOf]; omega⟩
    · obtain rfl : n = k := by omega
      go_wp2
      go_ret
      exact ⟨by rw [HF.out, Nat.sub_self]; rfl, HBL.out⟩

theorem evRow1 (W : World) (k i q b : Nat) : Row (W.alloc (.cells (ec k i q b) 27)) W.heap.size 4 (some ⟨W.heap.size, 0, none⟩) 1 (el [⟨k, i, q, b⟩]) := by
  refine ⟨rfl, fun _ => ⟨W.heap.size, 0, rfl, Nat.le_refl _, by simp, fun j u hj => ?_⟩⟩
  rw [Nat.zero_add, cell_of_row _ _ _ _ _ _ (heap_alloc_new W _)]
  have e : (ec k i q b).toList = el [⟨k, i, q, b⟩] := rfl
  rw [← e] at hj
  simpa using hj

/-- Behind the fence nothing revives what is dead. -/
def NoRv (w : World) (e : Ending) (w' : World) : Prop := e = .returned (.tuple #[.slice none 0 0, .bool false]) ∧ Below w.heap.size w w'
def OneRv (q : Nat) (w : World) (e : Ending) (w' : World) : Prop := ∃ A cc, e = .returned (.tuple #[.slice A 1 cc, .bool true]) ∧ Row w' w.heap.size 4 A 1 (el [⟨4, 0, q, 0⟩]) ∧ Below w.heap.size w w'

theorem dead_parts {c : Cl} {b : Nat} (h : dead c b = true) : has (newest c) b = false ∧ anyB (fun i => acc c i b) c.r.length = false := by
  rw [dead, none_any] at h
  simpa using h

set_option maxRecDepth 100000 in
set_option maxHeartbeats 1000000 in
theorem rev_fence (m B b : Nat) (c : Cl) (v : Vl) (w : World) (h : CL w B c v) (hok : Ok m c) (hm : m ≤ 100) (hb : b = 1 ∨ b = 2) (hd : dead c b = true) (hf : c.f = true) :
    Calls Try.prog 31 #[.agg (cv c v), .int .i64 (b : Int)] w (NoRv w) := by
  obtain ⟨hd1, hd2⟩ := dead_parts hd
  have hbz := (box_below w (.cells (cv c v) 25)).trans ((box_below (w.alloc (.cells (cv c v) 25)) (.cells #[.int .i64 (b : Int)] 3)).mono (by simp))
  have HBZ := Lib.hid hbz
  have R0 := Lib.hid (heap_alloc2_old w (.cells (cv c v) 25) (.cells #[.int .i64 (b : Int)] 3))
  have R1 := Lib.hid (heap_alloc2_new w (.cells (cv c v) 25) (.cells #[.int .i64 (b : Int)] 3))
  have HCH := Lib.hid (fun w' (hw : Below w.heap.size w w') => check_any m B c v w' (h.below hw) hok hm)
  have HNH := Lib.hid (fun w' (hw : Below w.heap.size w w') => newestHas_any m B c v b w' (h.below hw) hok hm (by omega))
  have HSA := Lib.hid (fun w' (hw : Below w.heap.size w w') => someAccepts_any m B b c v w' (h.below hw) hok hm (by omega))
  rw [hd1] at HNH
  rw [hd2] at HSA
  simp only [cv] at HCH HNH HSA
  have HFF := Lib.hid hf
  clear h hok hbz hd hd1 hd2 hf
  obtain ⟨c0, c1, c2, c3⟩ := cvCells _ _ _ _ _ _ R0.out
  have b0 := cell_of_row _ _ 0 _ _ _ R1.out
  go_enter Try.func31, Try.ntmps31
  go_wp2_with fail
  refine (HCH.out _ HBZ.out).mono ?_
  rintro e w1 ⟨rfl, hb1⟩
  have A0 := Lib.hid ((hb1.block _ (row_lt R0.out)).trans R0.out)
  have A1 := Lib.hid ((hb1.block _ (row_lt R1.out)).trans R1.out)
  have HB1 := Lib.hid (HBZ.out.trans (hb1.mono HBZ.out.size))
  clear hb1 c0 c1 c2 c3 b0
  obtain ⟨c0, c1, c2, c3⟩ := cvCells _ _ _ _ _ _ A0.out
  have b0 : _ = some (Value.int .i64 (b : Int)) := cell_of_row _ _ 0 _ _ _ A1.out
  go_wp2_with (go_at_call 66; (with_reducible refine (isbit_yes b _ hb).mono ?_); rintro e w2 ⟨rfl, rfl⟩)
  refine (HSA.out _ HB1.out).mono ?_
  rintro e w2 ⟨rfl, hb2⟩
  have B0 := Lib.hid ((hb2.block _ (row_lt A0.out)).trans A0.out)
  have B1 := Lib.hid ((hb2.block _ (row_lt A1.out)).trans A1.out)
  have HB2 := Lib.hid (HB1.out.trans (hb2.mono HB1.out.size))
  clear hb2 c0 c1 c2 c3 b0
  obtain ⟨c0, c1, c2, c3⟩ := cvCells _ _ _ _ _ _ B0.out
  have b0 : _ = some (Value.int .i64 (b : Int)) := cell_of_row _ _ 0 _ _ _ B1.out
  go_wp2_with fail
  refine (HNH.out _ HB2.out).mono ?_
  rintro e w3 ⟨rfl, hb3⟩
  have C0 := Lib.hid ((hb3.block _ (row_lt B0.out)).trans B0.out)
  have C1 := Lib.hid ((hb3.block _ (row_lt B1.out)).trans B1.out)
  have HB3 := Lib.hid (HB2.out.trans (hb3.mono HB2.out.size))
  clear hb3 c0 c1 c2 c3 b0
  obtain ⟨c0, c1, c2, c3⟩ := cvCells _ _ _ _ _ _ C0.out
  rw [HFF.out] at c0
  go_wp2_with fail
  go_ret2
  exact ⟨rfl, HB3.out⟩

set_option maxRecDepth 100000 in
set_option maxHeartbeats 1000000 in
theorem rev_snap (m B b : Nat) (c : Cl) (v : Vl) (w : World) (h : CL w B c v) (hok : Ok m c) (hm : m ≤ 100) (hb : b = 1 ∨ b = 2) (hd : dead c b = true) (hf : c.f = false) (hp : anyB (fun i => has (c.s.getD (c.p.getD i 0) 0) b) c.p.length = true) :
    Calls Try.prog 31 #[.agg (cv c v), .int .i64 (b : Int)] w fun e w' => ∃ q : Nat, q < c.p.length ∧ has (c.s.getD (c.p.getD q 0) 0) b = true ∧ OneRv q w e w' := by
  obtain ⟨hd1, hd2⟩ := dead_parts hd
  have hbz := (box_below w (.cells (cv c v) 25)).trans ((box_below (w.alloc (.cells (cv c v) 25)) (.cells #[.int .i64 (b : Int)] 3)).mono (by simp))
  have HBZ := Lib.hid hbz
  have R0 := Lib.hid (heap_alloc2_old w (.cells (cv c v) 25) (.cells #[.int .i64 (b : Int)] 3))
  have R1 := Lib.hid (heap_alloc2_new w (.cells (cv c v) 25) (.cells #[.int .i64 (b : Int)] 3))
  have HCH := Lib.hid (fun w' (hw : Below w.heap.size w w') => check_any m B c v w' (h.below hw) hok hm)
  have HNH := Lib.hid (fun w' (hw : Below w.heap.size w w') => newestHas_any m B c v b w' (h.below hw) hok hm (by omega))
  have HSA := Lib.hid (fun w' (hw : Below w.heap.size w w') => someAccepts_any m B b c v w' (h.below hw) hok hm (by omega))
  rw [hd1] at HNH
  rw [hd2] at HSA
  simp only [cv] at HCH HNH HSA
  have HFF := Lib.hid hf
  have HCL := Lib.hid h
  have HOK := Lib.hid hok
  have hp2 := hok.p2
  obtain ⟨q, hq1, hq2, hq3⟩ : ∃ q : Nat, q < c.p.length ∧ has (c.s.getD (c.p.getD q 0) 0) b = true ∧ fi (fun i => has (c.s.getD (c.p.getD i 0) 0) b) c.p.length 0 = (q : Int) := by
    rcases fi_all (fun i => has (c.s.getD (c.p.getD i 0) 0) b) c.p.length 0 with ⟨h1, h2⟩ | ⟨j, h1, h2, h3, h4⟩
    · obtain ⟨i, hi, hp⟩ := (any_iff _ _).1 hp
      have := h2 i hi
      rw [Nat.zero_add] at this
      rw [this] at hp
      cases hp
    · rw [Nat.zero_add] at h2 h3
      exact ⟨j, h1, h3, h2⟩
  have HQ := Lib.hid (And.intro hq1 hq2)
  have HFI := Lib.hid hq3
  have q0 : decide ((0 : Int) ≤ (q : Int)) = true := decide_eq_true (by omega)
  clear h hok hbz hd hd1 hd2 hf hp hq1 hq2 hq3
  obtain ⟨c0, c1, c2, c3⟩ := cvCells _ _ _ _ _ _ R0.out
  have b0 := cell_of_row _ _ 0 _ _ _ R1.out
  go_enter Try.func31, Try.ntmps31
  go_wp2_with fail
  refine (HCH.out _ HBZ.out).mono ?_
  rintro e w1 ⟨rfl, hb1⟩
  have A0 := Lib.hid ((hb1.block _ (row_lt R0.out)).trans R0.out)
  have A1 := Lib.hid ((hb1.block _ (row_lt R1.out)).trans R1.out)
  have HB1 := Lib.hid (HBZ.out.trans (hb1.mono HBZ.out.size))
  clear hb1 c0 c1 c2 c3 b0
  obtain ⟨c0, c1, c2, c3⟩ := cvCells _ _ _ _ _ _ A0.out
  have b0 : _ = some (Value.int .i64 (b : Int)) := cell_of_row _ _ 0 _ _ _ A1.out
  go_wp2_with (go_at_call 66; (with_reducible refine (isbit_yes b _ hb).mono ?_); rintro e w2 ⟨rfl, rfl⟩)
  refine (HSA.out _ HB1.out).mono ?_
  rintro e w2 ⟨rfl, hb2⟩
  have B0 := Lib.hid ((hb2.block _ (row_lt A0.out)).trans A0.out)
  have B1 := Lib.hid ((hb2.block _ (row_lt A1.out)).trans A1.out)
  have HB2 := Lib.hid (HB1.out.trans (hb2.mono HB1.out.size))
  clear hb2 c0 c1 c2 c3 b0
  obtain ⟨c0, c1, c2, c3⟩ := cvCells _ _ _ _ _ _ B0.out
  have b0 : _ = some (Value.int .i64 (b : Int)) := cell_of_row _ _ 0 _ _ _ B1.out
  go_wp2_with fail
  refine (HNH.out _ HB2.out).mono ?_
  rintro e w3 ⟨rfl, hb3⟩
  have C0 := Lib.hid ((hb3.block _ (row_lt B0.out)).trans B0.out)
  have C1 := Lib.hid ((hb3.block _ (row_lt B1.out)).trans B1.out)
  have HB3 := Lib.hid (HB2.out.trans (hb3.mono HB2.out.size))
  clear hb3 c0 c1 c2 c3 b0
  have hall := fun o => cvCells _ _ _ _ _ _ ((heap_alloc_old w3 o (row_lt C0.out)).trans C0.out)
  obtain ⟨c0, c1, c2, c3⟩ := cvCells _ _ _ _ _ _ C0.out
  rw [HFF.out] at c0
  have d3 := fun o => (hall o).2.2.2
  clear hall
  have l0 := row_lt C0.out
  have l1 := row_lt C1.out
  have hx : ∀ o, Calls Try.prog 71 #[.slice v.A3 c.p.length v.c3, .func (.func 70) #[] #[.pointer (some ⟨w.heap.size, 0, none⟩), .pointer (some ⟨w.heap.size + 1, 0, none⟩)]] (w3.alloc o) fun e w' => e = .returned (.int .i64 (q : Int)) ∧ Below (w3.alloc o).heap.size (w3.alloc o) w' := fun o => by
    have hb4 := HB3.out.trans ((box_below w3 o).mono HB3.out.size)
    have := has_idx c.p w.heap.size (w.heap.size + 1) v.A3 c.p.length v.c3 (fun i => has (c.s.getD (c.p.getD i 0) 0) b) (w3.alloc o) (by omega) ((HCL.out.below hb4).r3.base (Nat.zero_le _)) (fun i hi w' hw =>
      has_call m B _ b w.heap.size (w.heap.size + 1) c v w' (HCL.out.below (hb4.trans (hw.mono hb4.size))) HOK.out hm (HOK.out.pb i hi) (by omega) ((hw.block _ (by simp; omega)).trans ((heap_alloc_old _ _ l0).trans C0.out)) ((cell_of_row _ _ 0 _ _ _ ((hw.block _ (by simp; omega)).trans ((heap_alloc_old _ _ l1).trans C1.out))).trans rfl))
    rw [HFI.out] at this
    exact this
  have HX := Lib.hid hx
  clear hx
  have n1 := heap_alloc_new w3 (.cells #[.nilFunc] 80)
  have n2 := heap_alloc_new w3 (.cells #[.func (.func 70) #[] #[.pointer (some ⟨w.heap.size, 0, none⟩), .pointer (some ⟨w.heap.size + 1, 0, none⟩)]] 80)
  have hset : (w3.alloc (.cells #[.nilFunc] 80)).setCell ⟨w3.heap.size, 0, none⟩ (.func (.func 70) #[] #[.pointer (some ⟨w.heap.size, 0, none⟩), .pointer (some ⟨w.heap.size + 1, 0, none⟩)]) = w3.alloc (.cells #[.func (.func 70) #[] #[.pointer (some ⟨w.heap.size, 0, none⟩), .pointer (some ⟨w.heap.size + 1, 0, none⟩)]] 80) := set_new w3 #[.nilFunc] 80 0 _
  have g0 : (w3.alloc (.cells #[.nilFunc] 80)).cell? ⟨w3.heap.size, 0, none⟩ = some .nilFunc := by rw [cell_of_row _ _ _ _ _ _ n1]; rfl
  have f0 : (w3.alloc (.cells #[.nilFunc] 80)).frozen? ⟨w3.heap.size, 0, none⟩ = false := frozen_of_row _ _ _ _ _ n1
  have g1 : (w3.alloc (.cells #[.func (.func 70) #[] #[.pointer (some ⟨w.heap.size, 0, none⟩), .pointer (some ⟨w.heap.size + 1, 0, none⟩)]] 80)).cell? ⟨w3.heap.size, 0, none⟩ = some (.func (.func 70) #[] #[.pointer (some ⟨w.heap.size, 0, none⟩), .pointer (some ⟨w.heap.size + 1, 0, none⟩)]) := by rw [cell_of_row _ _ _ _ _ _ n2]; rfl
  have hsf : ∀ (W : World) (a : Addr) (fn : Go.Fn) (f ca : Array Value), (store a (.func fn f ca)).run Try.prog W = stored Try.prog W a (.func fn f ca) .plain := fun W a fn f ca => run_store Try.prog W a _ .plain rfl
  clear n1 n2
  go_wp2_with fail
  refine (HX.out _).mono ?_
  rintro e w5 ⟨rfl, hb5⟩
  have HB5 := Lib.hid (HB3.out.trans (((box_below w3 _).trans (hb5.mono (by simp))).mono HB3.out.size))
  clear hb5 c0 c1 c2 c3 d3
  go_wp2_with fail
  have hr := evRow1 w5 4 0 q 0
  go_ret2
  exact ⟨q, HQ.out.1, HQ.out.2, _, _, rfl, hr.base HB5.out.size, HB5.out.trans ((box_below w5 _).mono HB5.out.size)⟩

end Go.Proofs.Ytamcjhibdcbdnaa.Cl
