import Derived.Test.YtamcjhibdcbdnaaCAll
import Derived.Test.YtamcjhibdcbdnaaCSin
namespace Go.Proofs.Ytamcjhibdcbdnaa.Cl
open Go.RowKit
open Go.Proofs.Ytamcjhibdcbdnaa.Tp
set_option linter.unusedVariables false

/-- Is an evidence enough for replica i, since generation s of N? -/
def eno (i s N : Nat) (ok : Bool) (x : En) : Bool := ok && x.r == i && x.f && decide (s ≤ x.g) && decide (x.g < N)

set_option maxRecDepth 100000 in
set_option maxHeartbeats 600000 in
theorem eno_call (i s N cc go_ gi gs gc : Nat) (ok : Bool) (A : Option Addr) (x : En) (w : World) (ho : w.cell? ⟨go_, 0, none⟩ = some (.bool ok)) (hi : w.cell? ⟨gi, 0, none⟩ = some (.int .i64 (i : Int))) (hs : w.cell? ⟨gs, 0, none⟩ = some (.int .i64 (s : Int))) (hc : w.cell? ⟨gc, 1, none⟩ = some (.slice A N cc))
    (lo : go_ < w.heap.size) (li : gi < w.heap.size) (ls : gs < w.heap.size) (lc : gc < w.heap.size) :
    Calls Try.prog 78 #[.agg #[.int .i64 (x.r : Int), .int .i64 (x.g : Int), .bool x.f], .pointer (some ⟨go_, 0, none⟩), .pointer (some ⟨gi, 0, none⟩), .pointer (some ⟨gs, 0, none⟩), .pointer (some ⟨gc, 0, none⟩)] w fun e w' => e = .returned (.bool (eno i s N ok x)) ∧ Below w.heap.size w w' := by
  obtain ⟨r, g, f⟩ := x
  have HB := Lib.hid (box_below w (.cells (xc r g f) 67))
  have k1 : ∀ o, (w.alloc o).cell? ⟨go_, 0, none⟩ = some (.bool ok) := fun o => (World.cell?_alloc_lt _ _ _ lo).trans ho
  have k2 : ∀ o, (w.alloc o).cell? ⟨gi, 0, none⟩ = some (.int .i64 (i : Int)) := fun o => (World.cell?_alloc_lt _ _ _ li).trans hi
  have k3 : ∀ o, (w.alloc o).cell? ⟨gs, 0, none⟩ = some (.int .i64 (s : Int)) := fun o => (World.cell?_alloc_lt _ _ _ ls).trans hs
  have k4 : ∀ o, (w.alloc o).cell? ⟨gc, 1, none⟩ = some (.slice A N cc) := fun o => (World.cell?_alloc_lt _ _ _ lc).trans hc
  clear ho hi hs hc
  have hv : eno i s N ok ⟨r, g, f⟩ = (ok && r == i && f && decide (s ≤ g) && decide (g < N)) := rfl
  rw [hv]
  clear hv
  cases ok with
  | false =>
    go_enter Try.func78, Try.ntmps78
    go_wp2
    go_ret
    exact ⟨by first | rfl | simp, HB.out⟩
  | true =>
    by_cases h1 : r = i
    · subst h1
      cases f with
      | false =>
        go_enter Try.func78, Try.ntmps78
        go_wp2
        go_ret
        exact ⟨by first | rfl | simp, HB.out⟩
      | true =>
        by_cases h2 : s ≤ g
        · have d2 : decide ((s : Int) ≤ (g : Int)) = true := decide_eq_true (by omega)
          by_cases h3 : g < N
          · have d3 : decide ((g : Int) < (N : Int)) = true := decide_eq_true (by omega)
            go_enter Try.func78, Try.ntmps78
            go_wp2
            go_ret
            exact ⟨by first | rfl | simp [h2, h3], HB.out⟩
          · have d3 : decide ((g : Int) < (N : Int)) = false := decide_eq_false (by omega)
            go_enter Try.func78, Try.ntmps78
            go_wp2
            go_ret
            exact ⟨by first | rfl | simp [h2, h3], HB.out⟩
        · have d2 : decide ((s : Int) ≤ (g : Int)) = false := decide_eq_false (by omega)
          go_enter Try.func78, Try.ntmps78
          go_wp2
          go_ret
          exact ⟨by first | rfl | simp [h2], HB.out⟩
    · have d1 : ((r : Int) == (i : Int)) = false := beq_eq_false_iff_ne.2 (by omega)
      have d1' : (r == i) = false := beq_eq_false_iff_ne.2 h1
      go_enter Try.func78, Try.ntmps78
      go_wp2
      go_ret
      exact ⟨by first | rfl | simp [h1], HB.out⟩

set_option maxRecDepth 100000 in
set_option maxHeartbeats 400000 in
theorem eno_idx (l : List En) (go_ gi gs gc : Nat) (A : Option Addr) (n c : Nat) (p : Nat → Bool) (w : World) (hn : n ≤ 1000) (h : Row w 0 3 A n (xl l))
    (hp : ∀ i, i < n → ∀ w', Below w.heap.size w w' → Calls Try.prog 78 (#[.agg #[.int .i64 (((l.getD i e0).r : Nat) : Int), .int .i64 (((l.getD i e0).g : Nat) : Int), .bool (l.getD i e0).f]] ++ #[.pointer (some ⟨go_, 0, none⟩), .pointer (some ⟨gi, 0, none⟩), .pointer (some ⟨gs, 0, none⟩), .pointer (some ⟨gc, 0, none⟩)]) w' fun e w'' => e = .returned (.bool (p i)) ∧ Below w'.heap.size w' w'') :
    Calls Try.prog 83 #[.slice A n c, .func (.func 78) #[] #[.pointer (some ⟨go_, 0, none⟩), .pointer (some ⟨gi, 0, none⟩), .pointer (some ⟨gs, 0, none⟩), .pointer (some ⟨gc, 0, none⟩)]] w fun e w' => e = .returned (.int .i64 (fi p n 0)) ∧ Below w.heap.size w w' := by
  have H := Lib.hid h
  have HP := Lib.hid hp
  clear h hp
  go_enter Try.func83, Try.ntmps83
  go_wp2
  go_loopw [8] (fun i wr => ∃ k : Nat, k ≤ n ∧ i = .int .i64 k ∧ fi p n 0 = fi p (n - k) k ∧ Below w.heap.size w wr) (fun i _ => n - (intOf i).toNat)
  case atStart => exact ⟨0, by omega, rfl, rfl, Below.refl _ _⟩
  case round =>
    obtain ⟨k, hk, rfl, hfi, hbl⟩ := hrel
    have HBL := Lib.hid hbl
    have HF := Lib.hid hfi
    clear hfi
    by_cases hlt : k < n
    · obtain ⟨b, off, rfl, hB, hbk, c0, c1, c2⟩ := (H.out.below hbl).evid hlt
      have HC := Lib.hid (HP.out k hlt wr hbl)
      have HFI := Lib.hid (fi_step p n k hlt)
      clear hbl
      cases hpk : p k with
      | true =>
        rw [hpk] at HC
        have HPK := Lib.hid hpk
        clear hpk
        go_wp2_with (go_at_call 78; refine HC.out.mono ?_; rintro e w2 ⟨rfl, hb2⟩; have HB2 := Lib.hid (HBL.out.trans (hb2.mono HBL.out.size)); clear hb2)
        go_ret
        refine ⟨?_, HB2.out⟩
        rw [HF.out, HFI.out.1 HPK.out]
        rfl
      | false =>
        rw [hpk] at HC
        have HPK := Lib.hid hpk
        clear hpk
        go_wp2_with (go_at_call 78; refine HC.out.mono ?_; rintro e w2 ⟨rfl, hb2⟩; have HB2 := Lib.hid (HBL.out.trans (hb2.mono HBL.out.size)); clear hb2)
        exact ⟨⟨k + 1, by omega, by go_num, by rw [HF.out, HFI.out.2 HPK.out], HB2.out⟩, by simp [intOf]; omega⟩
    · obtain rfl : n = k := by omega
      go_wp2
      go_ret
      exact ⟨by rw [HF.out, Nat.sub_self]; rfl, HBL.out⟩

set_option maxRecDepth 100000 in
set_option maxHeartbeats 400000 in
theorem eno_any (l : List En) (go_ gi gs gc : Nat) (A : Option Addr) (n c : Nat) (p : Nat → Bool) (w : World) (hn : n ≤ 1000) (h : Row w 0 3 A n (xl l))
    (hp : ∀ i, i < n → ∀ w', Below w.heap.size w w' → Calls Try.prog 78 (#[.agg #[.int .i64 (((l.getD i e0).r : Nat) : Int), .int .i64 (((l.getD i e0).g : Nat) : Int), .bool (l.getD i e0).f]] ++ #[.pointer (some ⟨go_, 0, none⟩), .pointer (some ⟨gi, 0, none⟩), .pointer (some ⟨gs, 0, none⟩), .pointer (some ⟨gc, 0, none⟩)]) w' fun e w'' => e = .returned (.bool (p i)) ∧ Below w'.heap.size w' w'') :
    Calls Try.prog 77 #[.slice A n c, .func (.func 78) #[] #[.pointer (some ⟨go_, 0, none⟩), .pointer (some ⟨gi, 0, none⟩), .pointer (some ⟨gs, 0, none⟩), .pointer (some ⟨gc, 0, none⟩)]] w fun e w' => e = .returned (.bool (anyB p n)) ∧ Below w.heap.size w w' := by
  have HC := Lib.hid (eno_idx l go_ gi gs gc A n c p w hn h hp)
  clear h hp
  cases ha : anyB p n with
  | false =>
    rw [fi_none p n ha] at HC
    clear ha
    go_enter Try.func77, Try.ntmps77
    go_wp2_with (go_at_call 83; refine HC.out.mono ?_; rintro e w' ⟨rfl, hb⟩; have HB := Lib.hid hb; clear hb)
    go_ret
    exact ⟨rfl, HB.out⟩
  | true =>
    obtain ⟨q, hq⟩ := fi_some p n ha
    rw [hq] at HC
    clear ha hq
    have hd : decide ((0 : Int) ≤ (q : Int)) = true := decide_eq_true (by omega)
    go_enter Try.func77, Try.ntmps77
    go_wp2_with (go_at_call 83; refine HC.out.mono ?_; rintro e w' ⟨rfl, hb⟩; have HB := Lib.hid hb; clear hb)
    go_ret
    exact ⟨by first | rfl | simp, HB.out⟩

set_option maxRecDepth 100000 in
set_option maxHeartbeats 400000 in
theorem rig_idx (l : List En) (gc : Nat) (A : Option Addr) (n c : Nat) (p : Nat → Bool) (w : World) (hn : n ≤ 1000) (h : Row w 0 3 A n (xl l))
    (hp : ∀ i, i < n → ∀ w', Below w.heap.size w w' → Calls Try.prog 76 (#[.agg #[.int .i64 (((l.getD i e0).r : Nat) : Int), .int .i64 (((l.getD i e0).g : Nat) : Int), .bool (l.getD i e0).f]] ++ #[.pointer (some ⟨gc, 0, none⟩)]) w' fun e w'' => e = .returned (.bool (p i)) ∧ Below w'.heap.size w' w'') :
    Calls Try.prog 83 #[.slice A n c, .func (.func 76) #[] #[.pointer (some ⟨gc, 0, none⟩)]] w fun e w' => e = .returned (.int .i64 (fi p n 0)) ∧ Below w.heap.size w w' := by
  have H := Lib.hid h
  have HP := Lib.hid hp
  clear h hp
  go_enter Try.func83, Try.ntmps83
  go_wp2
  go_loopw [8] (fun i wr => ∃ k : Nat, k ≤ n ∧ i = .int .i64 k ∧ fi p n 0 = fi p (n - k) k ∧ Below w.heap.size w wr) (fun i _ => n - (intOf i).toNat)
  case atStart => exact ⟨0, by omega, rfl, rfl, Below.refl _ _⟩
  case round =>
    obtain ⟨k, hk, rfl, hfi, hbl⟩ := hrel
    have HBL := Lib.hid hbl
    have HF := Lib.hid hfi
    clear hfi
    by_cases hlt : k < n
    · obtain ⟨b, off, rfl, hB, hbk, c0, c1, c2⟩ := (H.out.below hbl).evid hlt
      have HC := Lib.hid (HP.out k hlt wr hbl)
      have HFI := Lib.hid (fi_step p n k hlt)
      clear hbl
      cases hpk : p k with
      | true =>
        rw [hpk] at HC
        have HPK := Lib.hid hpk
        clear hpk
        go_wp2_with (go_at_call 76; refine HC.out.mono ?_; rintro e w2 ⟨rfl, hb2⟩; have HB2 := Lib.hid (HBL.out.trans (hb2.mono HBL.out.size)); clear hb2)
        go_ret
        refine ⟨?_, HB2.out⟩
        rw [HF.out, HFI.out.1 HPK.out]
        rfl
      | false =>
        rw [hpk] at HC
        have HPK := Lib.hid hpk
        clear hpk
        go_wp2_with (go_at_call 76; refine HC.out.mono ?_; rintro e w2 ⟨rfl, hb2⟩; have HB2 := Lib.hid (HBL.out.trans (hb2.mono HBL.out.size)); clear hb2)
        exact ⟨⟨k + 1, by omega, by go_num, by rw [HF.out, HFI.out.2 HPK.out], HB2.out⟩, by simp [intOf]; omega⟩
    · obtain rfl : n = k := by omega
      go_wp2
      go_ret
      exact ⟨by rw [HF.out, Nat.sub_self]; rfl, HBL.out⟩

set_option maxRecDepth 100000 in
set_option maxHeartbeats 400000 in
theorem rig_any (l : List En) (gc : Nat) (A : Option Addr) (n c : Nat) (p : Nat → Bool) (w : World) (hn : n ≤ 1000) (h : Row w 0 3 A n (xl l))
    (hp : ∀ i, i < n → ∀ w', Below w.heap.size w w' → Calls Try.prog 76 (#[.agg #[.int .i64 (((l.getD i e0).r : Nat) : Int), .int .i64 (((l.getD i e0).g : Nat) : Int), .bool (l.getD i e0).f]] ++ #[.pointer (some ⟨gc, 0, none⟩)]) w' fun e w'' => e = .returned (.bool (p i)) ∧ Below w'.heap.size w' w'') :
    Calls Try.prog 77 #[.slice A n c, .func (.func 76) #[] #[.pointer (some ⟨gc, 0, none⟩)]] w fun e w' => e = .returned (.bool (anyB p n)) ∧ Below w.heap.size w w' := by
  have HC := Lib.hid (rig_idx l gc A n c p w hn h hp)
  clear h hp
  cases ha : anyB p n with
  | false =>
    rw [fi_none p n ha] at HC
    clear ha
    go_enter Try.func77, Try.ntmps77
    go_wp2_with (go_at_call 83; refine HC.out.mono ?_; rintro e w' ⟨rfl, hb⟩; have HB := Lib.hid hb; clear hb)
    go_ret
    exact ⟨rfl, HB.out⟩
  | true =>
    obtain ⟨q, hq⟩ := fi_some p n ha
    rw [hq] at HC
    clear ha hq
    have hd : decide ((0 : Int) ≤ (q : Int)) = true := decide_eq_true (by omega)
    go_enter Try.func77, Try.ntmps77
    go_wp2_with (go_at_call 83; refine HC.out.mono ?_; rintro e w' ⟨rfl, hb⟩; have HB := Lib.hid hb; clear hb)
    go_ret
    exact ⟨by first | rfl | simp, HB.out⟩

end Go.Proofs.Ytamcjhibdcbdnaa.Cl
