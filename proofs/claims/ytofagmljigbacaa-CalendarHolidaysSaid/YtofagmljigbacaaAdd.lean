import Derived.Test.YtofagmljigbacaaWork
namespace Go.Proofs.Ytofagmljigbacaa.Cal
open Go.RowKit
set_option linter.unusedVariables false

theorem info24 (D F T W : Nat) (A : Option Addr) (n c : Nat) : (Try.prog.info? 24).map (·.size) = some (calC D F T W A n c).size := by
  have e : (Try.prog.info? 24).map (·.size) = some 5 := by kernel_rfl
  rw [e]
  rfl

/-- A calendar that is valid, in memory. -/
structure CalOk (w : World) (D F T W : Nat) (A : Option Addr) (n : Nat) (hs : List Nat) : Prop where
  d0 : 1 ≤ D
  d1 : D ≤ 48
  f : F < T
  t : T ≤ D
  wlt : W < 128
  h : Hol w A n hs

theorem CalOk.below {w w' : World} {D F T W n : Nat} {A : Option Addr} {hs : List Nat} (h : CalOk w D F T W A n hs) (hb : Below w.heap.size w w') : CalOk w' D F T W A n hs :=
  ⟨h.d0, h.d1, h.f, h.t, h.wlt, h.h.below hb⟩

set_option maxRecDepth 100000 in
set_option maxHeartbeats 600000 in
theorem check_any (D F T W : Nat) (A : Option Addr) (n c : Nat) (hs : List Nat) (w : World) (h : CalOk w D F T W A n hs) :
    Calls Try.prog 13 #[.agg (calC D F T W A n c)] w fun e w' => e = .returned (.int .i64 0) ∧ Below w.heap.size w w' := by
  have H := Lib.hid h.h
  obtain ⟨hd0, hd1, hf, ht, hw, hh⟩ := h
  have hn40 := hh.few
  clear hh
  obtain ⟨c0, c1, c2, c3, c4⟩ := calCells (w := w.alloc (.cells (calC D F T W A n c) 24)) (heap_alloc_new w _)
  have hbl : Below w.heap.size w (w.alloc (.cells (calC D F T W A n c) 24)) := (Below.refl _ _).alloc (Nat.le_refl _) _
  have HBL := Lib.hid hbl
  clear hbl
  go_enter Try.func13, Try.ntmps13
  go_wp2
  clear c0 c1 c2 c3 c4
  go_loop [3, 5, 50] (fun l _ i => ∃ k : Nat, k ≤ n ∧ i = .int .i64 k ∧ ∃ z : Int, l = .int .i64 z ∧ (k = 0 → z = -1) ∧ (0 < k → z = (hs.getD (k - 1) 0 : Nat))) (fun _ _ i => n - (intOf i).toNat)
  case atStart => exact ⟨0, by omega, rfl, -1, rfl, fun _ => rfl, fun h => absurd h (by omega)⟩
  case round =>
    obtain ⟨k, hk, rfl, z, rfl, hz0, hz1⟩ := hrel
    by_cases hlt : k < n
    · obtain ⟨b, off, rfl, hb, hc⟩ := H.out.mem (by omega)
      have hcell : (w.alloc (.cells (calC D F T W (some ⟨b, off, none⟩) n c) 24)).cell? ⟨b, off + k, none⟩ = some (.int .i64 (hs.getD k 0 : Nat)) := (World.cell?_alloc_lt w _ _ hb).trans (hc k hlt)
      have hzl : z < ((hs.getD k 0 : Nat) : Int) := by
        by_cases h0 : k = 0
        · have := hz0 h0
          omega
        · have := hz1 (by omega)
          have := H.out.up (k - 1) k (by omega) hlt
          omega
      have hgd : decide (((hs.getD k 0 : Nat) : Int) ≤ z) = false := decide_eq_false (by omega)
      have hnew : ∃ y : Int, ((hs.getD k 0 : Nat) : Int) = y := ⟨_, rfl⟩
      clear hc hz0 hz1 hzl
      have HH : ∀ y : Nat, hs.getD k 0 = y → (y : Int) = (hs.getD (k + 1 - 1) 0 : Nat) := by
        rintro y rfl
        rfl
      have HNEW := Lib.hid (HH _ rfl)
      clear HH hnew
      generalize hs.getD k 0 = y at hcell hgd HNEW
      go_wp2
      go_round
      case rel => exact ⟨k + 1, by omega, by go_num, y, rfl, fun h => absurd h (by omega), fun _ => HNEW.out⟩
      case measure => simp [intOf]; omega
    · obtain rfl : k = n := by omega
      go_wp2
      go_ret
      exact ⟨rfl, HBL.out⟩

set_option maxHeartbeats 400000 in
theorem time_any (t : Nat) (w : World) (ht : t ≤ 1000000) : Calls Try.prog 26 #[.int .i64 (t : Int)] w fun e w' => e = .returned (.bool true) ∧ w = w' := by
  have hd : decide ((t : Int) ≤ 1099511627776) = true := decide_eq_true (by omega)
  go_enter Try.func26, Try.ntmps26
  go_wp2
  go_ret
  exact ⟨rfl, rfl⟩

/-- The three contracts, at every world behind the one where the call begins. -/
theorem three {D F T W n : Nat} {A : Option Addr} (c : Nat) {hs : List Nat} {w : World} (h : CalOk w D F T W A n hs) :
    (∀ w', Below w.heap.size w w' → Calls Try.prog 13 #[.agg (calC D F T W A n c)] w' fun e w'' => e = .returned (.int .i64 0) ∧ Below w'.heap.size w' w'') ∧
    (∀ t : Nat, t ≤ 1000000 → ∀ w', Below w.heap.size w w' → Calls Try.prog 27 #[.agg (calC D F T W A n c), .int .i64 (t : Int)] w' fun e w'' => e = .returned (.bool (wk D F T W hs t)) ∧ Below w'.heap.size w' w'') :=
  ⟨fun w' hb => check_any D F T W A n c hs w' (h.below hb), fun t ht w' hb => working_any D F T W A n c hs t w' h.d0 h.wlt (h.h.below hb) ht⟩

theorem box_below (w : World) (o : Obj) : Below w.heap.size w (w.alloc o) := (Below.refl _ _).alloc (Nat.le_refl _) _

set_option maxRecDepth 100000 in
set_option maxHeartbeats 400000 in
theorem Working_any (D F T W : Nat) (A : Option Addr) (n c : Nat) (hs : List Nat) (t : Nat) (w : World) (h : CalOk w D F T W A n hs) (ht : t ≤ 1000000) :
    Calls Try.prog 17 #[.agg (calC D F T W A n c), .int .i64 (t : Int)] w fun e w' => e = .returned (.bool (wk D F T W hs t)) ∧ Below w.heap.size w w' := by
  obtain ⟨k1, k2⟩ := three c h
  have k2 := k2 t ht
  have K1 := Lib.hid k1
  have K2 := Lib.hid k2
  have HBX := Lib.hid (box_below w (.cells (calC D F T W A n c) 24))
  have HR := Lib.hid (heap_alloc_new w (.cells (calC D F T W A n c) 24))
  clear h k1 k2
  obtain ⟨c0, c1, c2, c3, c4⟩ := calCells HR.out
  go_enter Try.func17, Try.ntmps17
  go_wp2_with (first
    | (go_at_call 13; refine (K1.out _ HBX.out).mono ?_; rintro e w1 ⟨rfl, hb1⟩; have HR1 := Lib.hid ((hb1.block w.heap.size (by simp)).trans HR.out); have HBX1 := Lib.hid (HBX.out.trans (hb1.mono (by simp))); clear hb1 c0 c1 c2 c3 c4; obtain ⟨d0, d1, d2, d3, d4⟩ := calCells HR1.out)
    | (go_at_call 26; refine (time_any t _ ht).mono ?_; rintro e w' ⟨rfl, rfl⟩)
    | (go_at_call 27; refine (K2.out _ HBX1.out).mono ?_; rintro e w2 ⟨rfl, hb2⟩; have HB2 := Lib.hid (HBX1.out.trans (hb2.mono HBX1.out.size)); clear hb2))
  go_ret
  exact ⟨rfl, HB2.out⟩

/-- What a loop over ticks stands on: the calendar's block, and the world behind. -/
structure Stand (w : World) (D F T W : Nat) (A : Option Addr) (n c : Nat) (wr : World) : Prop where
  row : wr.heap[w.heap.size]? = some (.cells (calC D F T W A n c) 24 (0, 0))
  bl : Below w.heap.size w wr

theorem Stand.next {w wr w' : World} {D F T W n c : Nat} {A : Option Addr} (h : Stand w D F T W A n c wr) (hb : Below wr.heap.size wr w') : Stand w D F T W A n c w' := by
  have hlt : w.heap.size < wr.heap.size := by
    by_cases hh : w.heap.size < wr.heap.size
    · exact hh
    · have e : wr.heap[w.heap.size]? = none := by simp; omega
      have := h.row
      rw [e] at this
      cases this
  exact ⟨(hb.block _ hlt).trans h.row, h.bl.trans (hb.mono (by omega))⟩

theorem stand_new (w : World) (D F T W : Nat) (A : Option Addr) (n c : Nat) : Stand w D F T W A n c (w.alloc (.cells (calC D F T W A n c) 24)) := ⟨heap_alloc_new _ _, box_below _ _⟩

set_option maxRecDepth 100000 in
set_option maxHeartbeats 600000 in
theorem Next_any (D F T W : Nat) (A : Option Addr) (n c : Nat) (hs : List Nat) (t k : Nat) (w : World) (h : CalOk w D F T W A n hs) (ht : t ≤ 900000) (hk : k ≤ 90000) (hl : Least (wk D F T W hs) t 1 (k + 1)) :
    Calls Try.prog 21 #[.agg (calC D F T W A n c), .int .i64 (t : Int)] w fun e w' => e = .returned (.tuple #[.int .i64 ((t + k : Nat) : Int), .int .i64 0]) ∧ Below w.heap.size w w' := by
  obtain ⟨k1, k2⟩ := three c h
  have hno : ∀ j, j < k → wk D F T W hs (t + j) = false := by
    intro j hj
    have h1 := hl.2 (j + 1) (by omega)
    simp only [cw] at h1
    cases hf : wk D F T W hs (t + j) with
    | false => rfl
    | true => rw [hf] at h1; simp at h1
  have hyes : wk D F T W hs (t + k) = true := by
    obtain ⟨j, e, _, hf⟩ := least_pred hl (by omega)
    obtain rfl : k = j := by omega
    exact hf
  have K1 := Lib.hid k1
  have K2 := Lib.hid k2
  have HNO := Lib.hid hno
  have HYES := Lib.hid hyes
  have HS := Lib.hid (stand_new w D F T W A n c)
  clear h k1 k2 hl hno hyes
  obtain ⟨c0, c1, c2, c3, c4⟩ := calCells HS.out.row
  go_enter Try.func21, Try.ntmps21
  go_wp2_with (first
    | (go_at_call 13; refine (K1.out _ HS.out.bl).mono ?_; rintro e w1 ⟨rfl, hb1⟩; have HS1 := Lib.hid (HS.out.next hb1); clear hb1 c0 c1 c2 c3 c4)
    | (go_at_call 26; refine (time_any t _ (by omega)).mono ?_; rintro e w' ⟨rfl, rfl⟩))
  go_loopw [6] (fun u wr => ∃ j : Nat, j ≤ k ∧ u = .int .i64 ((t + j : Nat) : Int) ∧ Stand w D F T W A n c wr) (fun u _ => t + k + 1 - (intOf u).toNat)
  case atStart => exact ⟨0, by omega, rfl, HS1.out⟩
  case round =>
    obtain ⟨j, hj, rfl, hst⟩ := hrel
    have HST := Lib.hid hst
    clear hst
    obtain ⟨c0, c1, c2, c3, c4⟩ := calCells HST.out.row
    have k3 := K2.out (t + j) (by omega) _ HST.out.bl
    by_cases hlt : j < k
    · rw [HNO.out j hlt] at k3
      have K3 := Lib.hid k3
      clear k3
      generalize hv : t + j = v at *
      go_wp2_with (first
        | (go_at_call 26; refine (time_any v _ (by omega)).mono ?_; rintro e w' ⟨rfl, rfl⟩)
        | (go_at_call 27; refine K3.out.mono ?_; rintro e w2 ⟨rfl, hb2⟩; have HST2 := Lib.hid (HST.out.next hb2); clear hb2 c0 c1 c2 c3 c4))
      exact ⟨⟨j + 1, by omega, by go_num, HST2.out⟩, by simp [intOf]; omega⟩
    · obtain rfl : j = k := by omega
      rw [HYES.out] at k3
      have K3 := Lib.hid k3
      clear k3
      generalize hv : t + j = v at *
      go_wp2_with (first
        | (go_at_call 26; refine (time_any v _ (by omega)).mono ?_; rintro e w' ⟨rfl, rfl⟩)
        | (go_at_call 27; refine K3.out.mono ?_; rintro e w2 ⟨rfl, hb2⟩; have HST2 := Lib.hid (HST.out.next hb2); clear hb2 c0 c1 c2 c3 c4))
      go_ret2
      exact ⟨by subst hv; rfl, HST2.out.bl⟩

set_option maxRecDepth 100000 in
set_option maxHeartbeats 600000 in
theorem Between_any (D F T W : Nat) (A : Option Addr) (n c : Nat) (hs : List Nat) (t k : Nat) (w : World) (h : CalOk w D F T W A n hs) (ht : t ≤ 900000) (hk : k ≤ 90000) :
    Calls Try.prog 15 #[.agg (calC D F T W A n c), .int .i64 (t : Int), .int .i64 ((t + k : Nat) : Int)] w fun e w' => e = .returned (.tuple #[.int .i64 (cw (wk D F T W hs) t k : Nat), .int .i64 0]) ∧ Below w.heap.size w w' := by
  obtain ⟨k1, k2⟩ := three c h
  have K1 := Lib.hid k1
  have K2 := Lib.hid k2
  have HS := Lib.hid (stand_new w D F T W A n c)
  have HCW := Lib.hid (cw_le (wk D F T W hs) t)
  have HST : ∀ j, cw (wk D F T W hs) t (j + 1) = cw (wk D F T W hs) t j + if wk D F T W hs (t + j) then 1 else 0 := fun _ => rfl
  have HSTEP := Lib.hid HST
  clear h k1 k2 HST
  obtain ⟨m, hm⟩ : ∃ m, t + k = m := ⟨_, rfl⟩
  have hmt : t ≤ m := by omega
  have hm2 : m ≤ 990000 := by omega
  have hm3 : m ≤ t + 90000 := by omega
  have hd0 : decide ((100000 : Int) < (m : Int) - (t : Int)) = false := decide_eq_false (by omega)
  have hd1 : decide (m < t) = false := decide_eq_false (by omega)
  rw [hm]
  have HK := Lib.hid hm
  clear hm
  obtain ⟨c0, c1, c2, c3, c4⟩ := calCells HS.out.row
  go_enter Try.func15, Try.ntmps15
  go_wp2_with (first
    | (go_at_call 13; refine (K1.out _ HS.out.bl).mono ?_; rintro e w1 ⟨rfl, hb1⟩; have HS1 := Lib.hid (HS.out.next hb1); clear hb1 c0 c1 c2 c3 c4)
    | (go_at_call 26; (with_reducible refine (time_any t _ (by have := HK.out; omega)).mono ?_); rintro e w' ⟨rfl, rfl⟩)
    | (go_at_call 26; (with_reducible refine (time_any m _ (by have := HK.out; omega)).mono ?_); rintro e w' ⟨rfl, rfl⟩))
  go_loopw [8, 9] (fun s u wr => ∃ j : Nat, j ≤ k ∧ u = .int .i64 ((t + j : Nat) : Int) ∧ s = .int .i64 (cw (wk D F T W hs) t j : Nat) ∧ Stand w D F T W A n c wr) (fun _ u _ => m - (intOf u).toNat)
  case atStart => exact ⟨0, by omega, rfl, rfl, HS1.out⟩
  case round =>
    obtain ⟨j, hj, rfl, rfl, hst⟩ := hrel
    have HST := Lib.hid hst
    clear hst
    obtain ⟨c0, c1, c2, c3, c4⟩ := calCells HST.out.row
    have hkk := HK.out
    by_cases hlt : j < k
    · have k3 := K2.out (t + j) (by omega) _ HST.out.bl
      have hs1 := HSTEP.out j
      have hcl := HCW.out j
      have hvm : t + j < m := by omega
      clear hkk
      by_cases hf : wk D F T W hs (t + j) = true
      · rw [hf] at k3
        rw [if_pos hf] at hs1
        have K3 := Lib.hid k3
        have HS1' := Lib.hid hs1
        clear k3 hs1 hf
        generalize cw (wk D F T W hs) t j = C at *
        obtain ⟨v, hv⟩ : ∃ v, t + j = v := ⟨_, rfl⟩
        have hv1 : v < m := by omega
        have hv2 : t ≤ v := by omega
        rw [hv] at K3 ⊢
        have HV := Lib.hid hv
        clear hv hvm
        go_wp2_with (go_at_call 27; refine K3.out.mono ?_; rintro e w2 ⟨rfl, hb2⟩; have HST2 := Lib.hid (HST.out.next hb2); clear hb2 c0 c1 c2 c3 c4)
        exact ⟨⟨j + 1, by omega, by have := HV.out; go_num, by rw [HS1'.out]; go_num, HST2.out⟩, by simp [intOf]; omega⟩
      · have hf' : wk D F T W hs (t + j) = false := by simpa using hf
        rw [hf'] at k3
        rw [if_neg hf] at hs1
        have K3 := Lib.hid k3
        have HS1' := Lib.hid hs1
        clear k3 hs1 hf hf'
        generalize cw (wk D F T W hs) t j = C at *
        obtain ⟨v, hv⟩ : ∃ v, t + j = v := ⟨_, rfl⟩
        have hv1 : v < m := by omega
        have hv2 : t ≤ v := by omega
        rw [hv] at K3 ⊢
        have HV := Lib.hid hv
        clear hv hvm
        go_wp2_with (go_at_call 27; refine K3.out.mono ?_; rintro e w2 ⟨rfl, hb2⟩; have HST2 := Lib.hid (HST.out.next hb2); clear hb2 c0 c1 c2 c3 c4)
        exact ⟨⟨j + 1, by omega, by have := HV.out; go_num, by rw [HS1'.out]; go_num, HST2.out⟩, by simp [intOf]; omega⟩
    · obtain rfl : j = k := by omega
      rw [hkk]
      clear hkk
      go_wp2
      go_ret2
      exact ⟨rfl, HST.out.bl⟩

set_option maxRecDepth 100000 in
set_option maxHeartbeats 800000 in
theorem Add_any (D F T W : Nat) (A : Option Addr) (n c : Nat) (hs : List Nat) (t N k : Nat) (w : World) (h : CalOk w D F T W A n hs) (ht : t ≤ 900000) (hN : N ≤ 1000) (hk : k ≤ 90000) (hl : Least (wk D F T W hs) t N k) :
    Calls Try.prog 19 #[.agg (calC D F T W A n c), .int .i64 (t : Int), .int .i64 (N : Int)] w fun e w' => e = .returned (.tuple #[.int .i64 ((t + k : Nat) : Int), .int .i64 0]) ∧ Below w.heap.size w w' := by
  obtain ⟨k1, k2⟩ := three c h
  have K1 := Lib.hid k1
  have K2 := Lib.hid k2
  have HS := Lib.hid (stand_new w D F T W A n c)
  have HLT := Lib.hid hl.2
  have HEQ := Lib.hid hl.1
  have hst0 : ∀ j, cw (wk D F T W hs) t (j + 1) = cw (wk D F T W hs) t j + if wk D F T W hs (t + j) then 1 else 0 := fun _ => rfl
  have HSTEP := Lib.hid hst0
  clear h k1 k2 hst0 hl
  obtain ⟨c0, c1, c2, c3, c4⟩ := calCells HS.out.row
  go_enter Try.func19, Try.ntmps19
  go_wp2_with (first
    | (go_at_call 13; refine (K1.out _ HS.out.bl).mono ?_; rintro e w1 ⟨rfl, hb1⟩; have HS1 := Lib.hid (HS.out.next hb1); clear hb1 c0 c1 c2 c3 c4)
    | (go_at_call 26; (with_reducible refine (time_any t _ (by omega)).mono ?_); rintro e w' ⟨rfl, rfl⟩))
  go_loopw [2, 8] (fun r u wr => ∃ j : Nat, j ≤ k ∧ u = .int .i64 ((t + j : Nat) : Int) ∧ r = .int .i64 ((N : Int) - (cw (wk D F T W hs) t j : Nat)) ∧ Stand w D F T W A n c wr) (fun _ u _ => t + k + 1 - (intOf u).toNat)
  case atStart => exact ⟨0, by omega, rfl, by simp [cw], HS1.out⟩
  case round =>
    obtain ⟨j, hj, rfl, rfl, hst⟩ := hrel
    have HST := Lib.hid hst
    clear hst
    obtain ⟨c0, c1, c2, c3, c4⟩ := calCells HST.out.row
    obtain ⟨v, hv⟩ : ∃ v, t + j = v := ⟨_, rfl⟩
    have hv1 : v ≤ t + 90000 := by omega
    have hv2 : t ≤ v := by omega
    by_cases hlt : j < k
    · have k3 := K2.out (t + j) (by omega) _ HST.out.bl
      have hs1 := HSTEP.out j
      have hcl := HLT.out j hlt
      by_cases hf : wk D F T W hs (t + j) = true
      · rw [hf] at k3
        rw [if_pos hf] at hs1
        have K3 := Lib.hid k3
        have HS1' := Lib.hid hs1
        clear k3 hs1 hf
        generalize cw (wk D F T W hs) t j = C at *
        rw [hv] at K3 ⊢
        have HV := Lib.hid hv
        clear hv
        have hne : ((N : Int) - (C : Int) == 0) = false := beq_eq_false_iff_ne.2 (by omega)
        go_wp2_with (first
          | (go_at_call 26; (with_reducible refine (time_any v _ (by omega)).mono ?_); rintro e w' ⟨rfl, rfl⟩)
          | (go_at_call 27; refine K3.out.mono ?_; rintro e w2 ⟨rfl, hb2⟩; have HST2 := Lib.hid (HST.out.next hb2); clear hb2 c0 c1 c2 c3 c4))
        exact ⟨⟨j + 1, by omega, by have := HV.out; go_num, by rw [HS1'.out]; go_num, HST2.out⟩, by have := HV.out; simp [intOf]; omega⟩
      · have hf' : wk D F T W hs (t + j) = false := by simpa using hf
        rw [hf'] at k3
        rw [if_neg hf] at hs1
        have K3 := Lib.hid k3
        have HS1' := Lib.hid hs1
        clear k3 hs1 hf hf'
        generalize cw (wk D F T W hs) t j = C at *
        rw [hv] at K3 ⊢
        have HV := Lib.hid hv
        clear hv
        have hne : ((N : Int) - (C : Int) == 0) = false := beq_eq_false_iff_ne.2 (by omega)
        go_wp2_with (first
          | (go_at_call 26; (with_reducible refine (time_any v _ (by omega)).mono ?_); rintro e w' ⟨rfl, rfl⟩)
          | (go_at_call 27; refine K3.out.mono ?_; rintro e w2 ⟨rfl, hb2⟩; have HST2 := Lib.hid (HST.out.next hb2); clear hb2 c0 c1 c2 c3 c4))
        exact ⟨⟨j + 1, by omega, by have := HV.out; go_num, by rw [HS1'.out]; go_num, HST2.out⟩, by have := HV.out; simp [intOf]; omega⟩
    · obtain rfl : j = k := by omega
      rw [HEQ.out, hv]
      have HV := Lib.hid hv
      clear hv
      go_wp2_with (first
        | (go_at_call 26; (with_reducible refine (time_any v _ (by omega)).mono ?_); rintro e w' ⟨rfl, rfl⟩))
      go_ret2
      exact ⟨by rw [HV.out]; rfl, HST.out.bl⟩
end Go.Proofs.Ytofagmljigbacaa.Cal
