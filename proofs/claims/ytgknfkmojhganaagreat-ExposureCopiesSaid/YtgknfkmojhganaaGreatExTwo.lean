import Derived.Test.YtgknfkmojhganaaGreatExAll
import Derived.Test.YtgknfkmojhganaaGreatRdTwo
import Derived.StillTailTactics
import Derived.Deep.RegionHeld3

namespace Go.Proofs.YtgknfkmojhganaaGreat.Di
open Go.RowKit
open Go.Proofs.YtgknfkmojhganaaGreat.Tp
set_option linter.unusedVariables false
set_option linter.unusedSimpArgs false

set_option maxRecDepth 100000 in
set_option maxHeartbeats 2000000 in
/-- The product's Could. -/
theorem xcould_any (d : Dy) (v : Vd) (a : Es) (u : Ve) (n : Nat) (c p : Int) (t : Nat) (w : World) (h : DL w 0 d v) (hok : Ok d) (he : EL w 0 a u) (hea : Eok a) (hn : a.n = (n : Int)) (hc : 0 ≤ c ∧ c < 64) (hp : -1 ≤ p) (ht : t ≤ 1099511627776) :
    Calls Tryz.prog 37 #[.agg (gd d v), .agg (ge a u), .int .i64 c, .int .i64 p, .int .i64 (t : Int)] w fun e w' => e = .returned (.bool (xwB d a n c p t)) ∧ Below w.heap.size w w' := by
  have hbx := (box_below w (.cells (gd d v) 25)).trans ((box_below (w.alloc (.cells (gd d v) 25)) (.cells (ge a u) 28)).mono (by simp))
  have HBX := Lib.hid hbx
  have D1 := Lib.hid (heap_alloc2_old w (.cells (gd d v) 25) (.cells (ge a u) 28))
  have E1 := Lib.hid (heap_alloc2_new w (.cells (gd d v) 25) (.cells (ge a u) 28))
  obtain ⟨g0, g1⟩ := gdCells D1.out
  obtain ⟨c0, c1⟩ := geCells E1.out
  have HCK := Lib.hid (xcheck_ok d v a u c _ (h.below hbx) hok (Row.below he hbx) hea hc)
  have HWH := Lib.hid (fun w' (hb : Below w.heap.size w w') => xwhere_any d v a u n c p t w' (h.below hb) hok (Row.below he hb) hea hn hc hp)
  have HFD := Lib.hid (show (#[.slice v.A1 d.k.length v.c1, .slice v.A2 d.e.length v.c2] : Array Value) = gd d v from rfl)
  have HFE := Lib.hid (show (#[.int .i64 a.n, .slice u.A a.e.length u.c] : Array Value) = ge a u from rfl)
  have lD := row_lt D1.out
  have lE := row_lt E1.out
  have d1 : decide ((t : Int) < 0) = false := decide_eq_false (by omega)
  have d2 : decide ((1099511627776 : Int) < (t : Int)) = false := decide_eq_false (by omega)
  generalize xwB d a n c p t = xb at *
  clear h hok he hea hn hc hp hbx
  go_enter Tryz.func37, Tryz.ntmps37
  go_wp2_with (first
    | (go_at_call 68; rw [HFD.out, HFE.out]; refine HCK.out.mono ?_; rintro e w1 ⟨rfl, hb1⟩; have B1 := Lib.hid (HBX.out.trans (hb1.mono HBX.out.size)); have D2 := Lib.hid ((hb1.block _ lD).trans D1.out); have E2 := Lib.hid ((hb1.block _ lE).trans E1.out); clear hb1 g0 g1 c0 c1; obtain ⟨g0, g1⟩ := gdCells D2.out; obtain ⟨c0, c1⟩ := geCells E2.out)
    | (go_at_call 73; rw [HFD.out, HFE.out]; refine (HWH.out _ B1.out).mono ?_; rintro e w2 ⟨z, rfl, -, hb2⟩; have B2 := Lib.hid (B1.out.trans (hb2.mono B1.out.size)); clear hb2 g0 g1 c0 c1))
  go_ret
  exact ⟨by first | rfl | simp, B2.out⟩
/-- Is a number in a list of what holds? -/
def hsB (r : Nat → Bool) (n x : Nat) : Bool := anyB (fun i => (idx r n).getD i 0 == x) (cnt r n)
theorem hsB_iff {r : Nat → Bool} {n x : Nat} : hsB r n x = true ↔ x < n ∧ r x = true := by
  unfold hsB
  constructor
  · intro h
    rw [any_iff] at h
    obtain ⟨i, hi, h⟩ := h
    have := at_idx hi
    rw [beq_iff_eq] at h
    rw [h] at this
    exact this
  · rintro ⟨h1, h2⟩
    rw [has_idx r n x h1]
    exact h2
theorem key_has {d : Dy} {a : Es} (hea : Eok a) {p P t : Nat} (hP : (P : Int) < a.n) : anyB (fun j => hsB (upB d t p) d.k.length ((idx (gdB a (P : Int) (t : Int)) 24).getD j 0)) (cnt (gdB a (P : Int) (t : Int)) 24) = anyB (keyB d a p P t) d.k.length := by
  apply Bool.eq_iff_iff.2
  rw [any_iff, any_iff]
  constructor
  · rintro ⟨j, hj, h⟩
    obtain ⟨h1, h2⟩ := at_idx hj
    rw [hsB_iff] at h
    refine ⟨_, h.1, ?_⟩
    unfold keyB
    rw [h.2, h2]; rfl
  · rintro ⟨x, hx, h⟩
    unfold keyB at h
    rw [Bool.and_eq_true] at h
    have hg := h.2
    rw [gdB_yes ⟨hea, by omega, hP⟩] at hg
    obtain ⟨k, hk⟩ := Option.isSome_iff_exists.1 hg
    have hr := hea.gr_rng hk
    have hmm := (idx_mem (gdB a (P : Int) (t : Int)) x 24).2 ⟨by omega, h.2⟩
    obtain ⟨j, hj, e⟩ := List.mem_iff_getElem.1 hmm
    refine ⟨j, by rw [← idx_len]; exact hj, ?_⟩
    rw [show (idx (gdB a (P : Int) (t : Int)) 24).getD j 0 = x by rw [List.getD_eq_getElem?_getD, List.getElem?_eq_getElem hj]; exact e, hsB_iff]
    exact ⟨hx, h.1⟩
set_option maxRecDepth 100000 in
set_option maxHeartbeats 2000000 in
/-- The reference's granted: is there a principal above with a grant? -/
theorem rgrd_any (d : Dy) (v : Vd) (a : Es) (u : Ve) (p P t : Nat) (w : World) (h : DL w 0 d v) (hok : Ok d) (he : EL w 0 a u) (hea : Eok a) (hP : (P : Int) < a.n) :
    Calls Tryz.prog 43 #[.agg (gd d v), .agg (ge a u), .int .i64 (p : Int), .int .i64 (P : Int), .int .i64 (t : Int)] w fun e w' => e = .returned (.bool (anyB (keyB d a p P t) d.k.length)) ∧ Below w.heap.size w w' := by
  have hbx := (box_below w (.cells (gd d v) 25)).trans ((box_below (w.alloc (.cells (gd d v) 25)) (.cells (ge a u) 28)).mono (by simp))
  have HBX := Lib.hid hbx
  have D1 := Lib.hid (heap_alloc2_old w (.cells (gd d v) 25) (.cells (ge a u) 28))
  have E1 := Lib.hid (heap_alloc2_new w (.cells (gd d v) 25) (.cells (ge a u) 28))
  obtain ⟨g0, g1⟩ := gdCells D1.out
  obtain ⟨c0, c1⟩ := geCells E1.out
  have hup := rupw_any d v p t _ (h.below hbx) hok
  have hgt := fun w' (hb : Below w.heap.size w w') => rgranted_any a u (P : Int) (t : Int) w' (Row.below he hb) hea ⟨by omega, hP⟩
  unfold SmPost at hup hgt
  have HUP := Lib.hid hup
  have HGT := Lib.hid hgt
  have HFD := Lib.hid (show (#[.slice v.A1 d.k.length v.c1, .slice v.A2 d.e.length v.c2] : Array Value) = gd d v from rfl)
  have HFE := Lib.hid (show (#[.int .i64 a.n, .slice u.A a.e.length u.c] : Array Value) = ge a u from rfl)
  have lD := row_lt D1.out
  have lE := row_lt E1.out
  have hn := hok.n
  have hkh := key_has (d := d) hea (p := p) (t := t) hP
  rw [← hkh]
  have HHS := Lib.hid (fun (x : Nat) X xc w' (hr : Row w' 0 1 X (cnt (upB d t p) d.k.length) (iv (idx (upB d t p) d.k.length))) => (show Calls Tryz.prog 65 #[.slice X (cnt (upB d t p) d.k.length) xc, .int .i64 (x : Int)] w' fun e w'' => e = .returned (.bool (hsB (upB d t p) d.k.length x)) ∧ w'' = w' from has_any (idx (upB d t p) d.k.length) x X (cnt (upB d t p) d.k.length) xc w' hr (by have := cnt_le (upB d t p) d.k.length; omega)))
  have hm := cnt_le (gdB a (P : Int) (t : Int)) 24
  generalize hsB (upB d t p) d.k.length = hs at *
  generalize cnt (gdB a (P : Int) (t : Int)) 24 = m at *
  generalize idx (gdB a (P : Int) (t : Int)) 24 = LG at *
  generalize cnt (upB d t p) d.k.length = um at *
  generalize idx (upB d t p) d.k.length = LU at *
  clear h hok he hea hP hbx hup hgt hkh hn
  go_enter Tryz.func43, Tryz.ntmps43
  go_wp2_with (first
    | (go_at_call 23; rw [HFD.out]; refine HUP.out.mono ?_; rintro e w1 ⟨X, xc, rfl, hown, hb1⟩; have B1 := Lib.hid (HBX.out.trans (hb1.mono HBX.out.size)); have RX := Lib.hid ((row_of_own hown).base (Nat.zero_le _)); have E2 := Lib.hid ((hb1.block _ lE).trans E1.out); clear hb1 hown g0 g1 c0 c1; obtain ⟨c0, c1⟩ := geCells E2.out)
    | (go_at_call 66; rw [HFE.out]; refine (HGT.out _ B1.out).mono ?_; rintro e w2 ⟨Y, yc, rfl, hown, hb2⟩; have B2 := Lib.hid (B1.out.trans (hb2.mono B1.out.size)); have RY := Lib.hid ((row_of_own hown).base (Nat.zero_le _)); have RX2 := Lib.hid (RX.out.below hb2); clear hb2 hown c0 c1))
  go_loopw [23] (fun ii wr => ∃ j : Nat, j ≤ m ∧ ii = .int .i64 (j : Int) ∧ (∀ i, i < j → hs (LG.getD i 0) = false) ∧ Below w2.heap.size w2 wr) (fun ii _ => m - (intOf ii).toNat)
  case atStart => exact ⟨0, by omega, rfl, fun i hi => absurd hi (by omega), Below.refl _ _⟩
  case round =>
    obtain ⟨j, hj, rfl, hno, hbl⟩ := hrel
    have HNO := Lib.hid hno
    have HBL := Lib.hid hbl
    clear hno hbl
    by_cases hlt : j < m
    · obtain ⟨b, off, hA, -, -, y0⟩ := (RY.out.below HBL.out).int hlt
      subst hA
      have i0 : (0 : Int) ≤ (j : Int) := by omega
      have i1 : (j : Int) < (m : Int) := by omega
      have HH := Lib.hid (HHS.out (LG.getD j 0) X xc wr (RX2.out.below HBL.out))
      obtain ⟨x, hx⟩ : ∃ x, LG.getD j 0 = x := ⟨_, rfl⟩
      rw [hx] at y0 HH
      have HXX := Lib.hid hx
      clear hx
      cases hb : hs x with
      | true =>
        rw [hb] at HH
        have HANY := Lib.hid (show anyB (fun j => hs (LG.getD j 0)) m = true from (any_iff _ _).2 ⟨j, hlt, by show hs (LG.getD j 0) = true; rw [HXX.out]; exact hb⟩)
        clear hb
        go_wp2_with (go_at_call 65; refine HH.out.mono ?_; rintro e w3 ⟨rfl, rfl⟩)
        go_ret
        exact ⟨by rw [HANY.out]; rfl, B2.out.trans (HBL.out.mono B2.out.size)⟩
      | false =>
        rw [hb] at HH
        have HB := Lib.hid hb
        clear hb
        go_wp2_with (go_at_call 65; refine HH.out.mono ?_; rintro e w3 ⟨rfl, rfl⟩)
        exact ⟨⟨j + 1, by omega, by go_num, fun i hi => by
          by_cases e : i = j
          · rw [e, HXX.out]; exact HB.out
          · exact HNO.out i (by omega), HBL.out⟩, by simp [intOf]; omega⟩
    · obtain rfl : j = m := by omega
      have HANY := Lib.hid (show anyB (fun j => hs (LG.getD j 0)) j = false from any_no HNO.out)
      go_wp2_with fail
      go_ret
      exact ⟨by rw [HANY.out]; rfl, B2.out.trans (HBL.out.mono B2.out.size)⟩
set_option maxRecDepth 100000 in
set_option maxHeartbeats 2000000 in
/-- The reference's May. -/
theorem rmay_any (d : Dy) (v : Vd) (a : Es) (u : Ve) (p P t : Nat) (w : World) (h : DL w 0 d v) (hok : Ok d) (he : EL w 0 a u) (hea : Eok a) (hP : (P : Int) < a.n) (hcap : a.e.length ≤ u.c) :
    Calls Tryz.prog 14 #[.agg (gd d v), .agg (ge a u), .int .i64 (p : Int), .int .i64 (P : Int), .int .i64 (t : Int)] w fun e w' => e = .returned (.bool (mayB d a p P t)) ∧ Below w.heap.size w w' := by
  have hbx := (box_below w (.cells (gd d v) 25)).trans ((box_below (w.alloc (.cells (gd d v) 25)) (.cells (ge a u) 28)).mono (by simp))
  have HBX := Lib.hid hbx
  have D1 := Lib.hid (heap_alloc2_old w (.cells (gd d v) 25) (.cells (ge a u) 28))
  have E1 := Lib.hid (heap_alloc2_new w (.cells (gd d v) 25) (.cells (ge a u) 28))
  obtain ⟨g0, g1⟩ := gdCells D1.out
  obtain ⟨c0, c1⟩ := geCells E1.out
  have HVA := Lib.hid (rvalid_any d v _ (h.below hbx) hok)
  have HPL := Lib.hid (fun w' (hb : Below w.heap.size w w') => place_yes a u (P : Int) w' (vay_of (Row.below he hb) hea) ⟨hea.n1, hea.n16⟩ ⟨by omega, hP⟩)
  have HRD := Lib.hid (fun w' (hb : Below w.heap.size w w') => reader_any 0 d v p w' (h.below hb) (by have := hok.n; omega))
  have HLK := Lib.hid (fun w' (hb : Below w.heap.size w w') => rlinked_any a u (P : Int) (t : Int) w' (Row.below he hb) hea ⟨by omega, hP⟩ hcap)
  have HGR := Lib.hid (fun w' (hb : Below w.heap.size w w') => rgrd_any d v a u p P t w' (h.below hb) hok (Row.below he hb) hea hP)
  have HFD := Lib.hid (show (#[.slice v.A1 d.k.length v.c1, .slice v.A2 d.e.length v.c2] : Array Value) = gd d v from rfl)
  have HFE := Lib.hid (show (#[.int .i64 a.n, .slice u.A a.e.length u.c] : Array Value) = ge a u from rfl)
  have lD := row_lt D1.out
  have lE := row_lt E1.out
  have hmy : mayB d a p P t = (rB d p && ((lkA a.e (P : Int) (t : Int)).isSome || anyB (keyB d a p P t) d.k.length)) := rfl
  rw [hmy]
  generalize anyB (keyB d a p P t) d.k.length = kb at *
  generalize (lkA a.e (P : Int) (t : Int)).isSome = lb at *
  clear h hok he hea hP hbx hmy hcap
  cases hrb : rB d p with
  | false =>
    rw [hrb] at HRD
    clear hrb
    go_enter Tryz.func14, Tryz.ntmps14
    go_wp2_with (first
      | (go_at_call 41; rw [HFD.out]; refine HVA.out.mono ?_; rintro e w1 ⟨rfl, hb1⟩; have B1 := Lib.hid (HBX.out.trans (hb1.mono HBX.out.size)); have D2 := Lib.hid ((hb1.block _ lD).trans D1.out); have E2 := Lib.hid ((hb1.block _ lE).trans E1.out); clear hb1 g0 g1 c0 c1; obtain ⟨c0, c1⟩ := geCells E2.out)
      | (go_at_call 42; rw [HFE.out]; refine (HPL.out _ B1.out).mono ?_; rintro e w2 ⟨rfl, hb2⟩; have B2 := Lib.hid (B1.out.trans (hb2.mono B1.out.size)); have D3 := Lib.hid ((hb2.block _ (row_lt D2.out)).trans D2.out); clear hb2 c0 c1; obtain ⟨g0, g1⟩ := gdCells D3.out)
      | (go_at_call 33; rw [HFD.out]; refine (HRD.out _ B2.out).mono ?_; rintro e w3 ⟨rfl, hb3⟩; have B3 := Lib.hid (B2.out.trans (hb3.mono B2.out.size)); clear hb3 g0 g1))
    go_ret
    exact ⟨by first | rfl | simp, B3.out⟩
  | true =>
    rw [hrb] at HRD
    clear hrb
    cases lb with
    | true =>
      go_enter Tryz.func14, Tryz.ntmps14
      go_wp2_with (first
        | (go_at_call 41; rw [HFD.out]; refine HVA.out.mono ?_; rintro e w1 ⟨rfl, hb1⟩; have B1 := Lib.hid (HBX.out.trans (hb1.mono HBX.out.size)); have D2 := Lib.hid ((hb1.block _ lD).trans D1.out); have E2 := Lib.hid ((hb1.block _ lE).trans E1.out); clear hb1 g0 g1 c0 c1; obtain ⟨c0, c1⟩ := geCells E2.out)
        | (go_at_call 42; rw [HFE.out]; refine (HPL.out _ B1.out).mono ?_; rintro e w2 ⟨rfl, hb2⟩; have B2 := Lib.hid (B1.out.trans (hb2.mono B1.out.size)); have D3 := Lib.hid ((hb2.block _ (row_lt D2.out)).trans D2.out); have E3 := Lib.hid ((hb2.block _ (row_lt E2.out)).trans E2.out); clear hb2 c0 c1; obtain ⟨g0, g1⟩ := gdCells D3.out)
        | (go_at_call 33; rw [HFD.out]; refine (HRD.out _ B2.out).mono ?_; rintro e w3 ⟨rfl, hb3⟩; have B3 := Lib.hid (B2.out.trans (hb3.mono B2.out.size)); have E4 := Lib.hid ((hb3.block _ (row_lt E3.out)).trans E3.out); clear hb3 g0 g1; obtain ⟨c0, c1⟩ := geCells E4.out)
        | (go_at_call 29; rw [HFE.out]; refine (HLK.out _ B3.out).mono ?_; rintro e w4 ⟨⟨z, rfl⟩, hb4⟩; have B4 := Lib.hid (B3.out.trans (hb4.mono B3.out.size)); clear hb4 c0 c1))
      go_ret
      exact ⟨by first | rfl | simp, B4.out⟩
    | false =>
      go_enter Tryz.func14, Tryz.ntmps14
      go_wp2_with (first
        | (go_at_call 41; rw [HFD.out]; refine HVA.out.mono ?_; rintro e w1 ⟨rfl, hb1⟩; have B1 := Lib.hid (HBX.out.trans (hb1.mono HBX.out.size)); have D2 := Lib.hid ((hb1.block _ lD).trans D1.out); have E2 := Lib.hid ((hb1.block _ lE).trans E1.out); clear hb1 g0 g1 c0 c1; obtain ⟨c0, c1⟩ := geCells E2.out)
        | (go_at_call 42; rw [HFE.out]; refine (HPL.out _ B1.out).mono ?_; rintro e w2 ⟨rfl, hb2⟩; have B2 := Lib.hid (B1.out.trans (hb2.mono B1.out.size)); have D3 := Lib.hid ((hb2.block _ (row_lt D2.out)).trans D2.out); have E3 := Lib.hid ((hb2.block _ (row_lt E2.out)).trans E2.out); clear hb2 c0 c1; obtain ⟨g0, g1⟩ := gdCells D3.out)
        | (go_at_call 33; rw [HFD.out]; refine (HRD.out _ B2.out).mono ?_; rintro e w3 ⟨rfl, hb3⟩; have B3 := Lib.hid (B2.out.trans (hb3.mono B2.out.size)); have D4 := Lib.hid ((hb3.block _ (row_lt D3.out)).trans D3.out); have E4 := Lib.hid ((hb3.block _ (row_lt E3.out)).trans E3.out); clear hb3 g0 g1; obtain ⟨c0, c1⟩ := geCells E4.out)
        | (go_at_call 29; rw [HFE.out]; refine (HLK.out _ B3.out).mono ?_; rintro e w4 ⟨⟨z, rfl⟩, hb4⟩; have B4 := Lib.hid (B3.out.trans (hb4.mono B3.out.size)); have D5 := Lib.hid ((hb4.block _ (row_lt D4.out)).trans D4.out); have E5 := Lib.hid ((hb4.block _ (row_lt E4.out)).trans E4.out); clear hb4 c0 c1; obtain ⟨g0, g1⟩ := gdCells D5.out; obtain ⟨c0, c1⟩ := geCells E5.out)
        | (go_at_call 43; rw [HFD.out, HFE.out]; refine (HGR.out _ B4.out).mono ?_; rintro e w5 ⟨rfl, hb5⟩; have B5 := Lib.hid (B4.out.trans (hb5.mono B4.out.size)); clear hb5 g0 g1 c0 c1))
      go_ret
      exact ⟨by first | rfl | simp, B5.out⟩

end Go.Proofs.YtgknfkmojhganaaGreat.Di

namespace Go.Proofs.YtgknfkmojhganaaGreat.Di
open Go.RowKit
open Go.Proofs.YtgknfkmojhganaaGreat.Tp
set_option linter.unusedVariables false
set_option linter.unusedSimpArgs false

/-- Is a content in a place, behind the first k events? -/
def nwB (a : Es) (c t : Int) (k q : Nat) : Bool := !(wy a.e c t k (q : Int)).isEmpty
theorem nwB_zero (a : Es) (c t : Int) (q : Nat) : nwB a c t 0 q = false := rfl
theorem emp_iff {l : List Nat} : (!l.isEmpty) = true ↔ l ≠ [] := by cases l <;> simp
theorem nwB_iff {a : Es} {c t : Int} {k q : Nat} : nwB a c t k q = true ↔ wy a.e c t k (q : Int) ≠ [] := emp_iff
theorem nwB_put {a : Es} {c t : Int} {k P : Nat} (ht : (ag a.e k).t ≤ t) (hk : (ag a.e k).k = 5) (hp : (ag a.e k).p = (P : Int)) (j : Nat) : nwB a c t (k + 1) j = if j = P then (nwB a c t k P || ((ag a.e k).c == c)) else nwB a c t k j := by
  have e : wy a.e c t (k + 1) = wst k (ag a.e k) c (wy a.e c t k) := by rw [wy, if_neg (by omega)]
  unfold nwB
  rw [e]
  unfold wst
  rw [if_pos hk, hp]
  by_cases hj : j = P
  · subst hj
    rw [if_pos rfl]
    by_cases hc : (ag a.e k).c = c
    · rw [if_pos ⟨hc, rfl⟩, hc]; simp
    · rw [if_neg (fun h => hc h.1), beq_eq_false_iff_ne.2 hc, Bool.or_false]
  · rw [if_neg hj, if_neg (fun h => hj (by omega))]
theorem nwB_rem {a : Es} {c t : Int} {k P : Nat} (ht : (ag a.e k).t ≤ t) (hk : (ag a.e k).k = 6) (hp : (ag a.e k).p = (P : Int)) (j : Nat) : nwB a c t (k + 1) j = if j = P then (nwB a c t k P && ((ag a.e k).c != c)) else nwB a c t k j := by
  have e : wy a.e c t (k + 1) = wst k (ag a.e k) c (wy a.e c t k) := by rw [wy, if_neg (by omega)]
  unfold nwB
  rw [e]
  unfold wst
  rw [if_neg (by omega), if_pos hk, hp]
  by_cases hj : j = P
  · subst hj
    rw [if_pos rfl]
    by_cases hc : (ag a.e k).c = c
    · rw [if_pos ⟨hc, rfl⟩, hc]; simp
    · rw [if_neg (fun h => hc h.1), bne_iff_ne.2 hc, Bool.and_true]
  · rw [if_neg hj, if_neg (fun h => hj (by omega))]
theorem nwB_cpy {a : Es} {c t : Int} {k P f : Nat} (ht : (ag a.e k).t ≤ t) (hk : (ag a.e k).k = 7) (hp : (ag a.e k).p = (P : Int)) (hf : (ag a.e k).f = (f : Int)) (j : Nat) : nwB a c t (k + 1) j = if j = P then (nwB a c t k P || nwB a c t k f) else nwB a c t k j := by
  have e : wy a.e c t (k + 1) = wst k (ag a.e k) c (wy a.e c t k) := by rw [wy, if_neg (by omega)]
  unfold nwB
  rw [e]
  unfold wst
  rw [if_neg (by omega), if_neg (by omega), if_pos hk, hp, hf]
  by_cases hj : j = P
  · subst hj
    rw [if_pos rfl]
    generalize wy a.e c t k (j : Int) = L1
    generalize wy a.e c t k (f : Int) = L2
    by_cases h1 : L1 = []
    · by_cases h2 : L2 = []
      · rw [if_neg (fun h => h.2.1 h2), h1, h2]; rfl
      · rw [if_pos ⟨rfl, h2, h1⟩, emp_iff.2 h2, Bool.or_true, emp_iff]
        simp
    · rw [if_neg (fun h => h1 h.2.2), emp_iff.2 h1, Bool.true_or]
  · rw [if_neg hj, if_neg (fun h => hj (by omega))]
theorem nwB_oth {a : Es} {c t : Int} {k : Nat} (ht : (ag a.e k).t ≤ t) (h5 : (ag a.e k).k ≠ 5) (h6 : (ag a.e k).k ≠ 6) (h7 : (ag a.e k).k ≠ 7) (j : Nat) : nwB a c t (k + 1) j = nwB a c t k j := by
  have e : wy a.e c t (k + 1) = wst k (ag a.e k) c (wy a.e c t k) := by rw [wy, if_neg (by omega)]
  unfold nwB
  rw [e]
  unfold wst
  rw [if_neg h5, if_neg h6, if_neg h7]
theorem rl_cong {α : Type} {f g : Nat → α} {n : Nat} (h : ∀ j, j < n → f j = g j) : rl f n = rl g n := by
  unfold rl
  exact List.map_congr_left fun p hp => h p (List.mem_range.1 hp)
def NwPost (a : Es) (c t : Int) (k n : Nat) (w : World) (e : Ending) (w' : World) : Prop := ∃ (G cc : Nat), e = .returned (.slice (some ⟨G, 0, none⟩) n cc) ∧ w'.ownsRow w.heap.size 4 1 (.slice (some ⟨G, 0, none⟩) n cc) n (rl (fun q => Value.bool (nwB a c t k q)) n) ∧ Below w.heap.size w w'
set_option maxRecDepth 100000 in
set_option maxHeartbeats 4000000 in
/-- Where a content is, behind the first k events. -/
theorem xnow_any (a : Es) (v : Ve) (c t : Int) (k n : Nat) (w : World) (h : EL w 0 a v) (hok : Eok a) (hn : a.n = (n : Int)) (hk : k ≤ a.e.length) (ht : ∀ j, j < k → (ag a.e j).t ≤ t) (hvc : a.e.length ≤ v.c) :
    Calls Tryz.prog 71 #[.agg (ge a v), .int .i64 c, .int .i64 (k : Int)] w (NwPost a c t k n w) := by
  obtain ⟨A, vc⟩ := v
  have hvc : a.e.length ≤ vc := hvc
  have hn1 := hok.n1
  have hn16 := hok.n16
  have HEV := Lib.hid hok.e
  have HT := Lib.hid ht
  have hb0 := box_below w (.cells (ge a ⟨A, vc⟩) 28)
  have HB0 := Lib.hid hb0
  have HR0 := Lib.hid (heap_alloc_new w (.cells (ge a ⟨A, vc⟩) 28))
  obtain ⟨c0, c1⟩ := geCells HR0.out
  have HEX := Lib.hid (Row.below h hb0)
  obtain ⟨i0, hi1, hz0, hz1, hz2⟩ := info_parts zinfo4
  have HI := Lib.hid hi1
  have HI0 := Lib.hid hz0
  have HI1 := Lib.hid hz1
  have HI2 := Lib.hid hz2
  have hz : (w.alloc (.cells (ge a ⟨A, vc⟩) 28)).heap.size = w.heap.size + 1 := by simp
  have hnn : a.n = ((n : Nat) : Int) := hn
  have k0 : (0 : Int) ≤ (k : Int) := by omega
  have k1 : (k : Int) ≤ (vc : Int) := by omega
  have hm := hok.m
  have HN0 := Lib.hid (nwB_zero a c t)
  have h0 := h
  clear h hok ht hb0 hi1 hz0 hz1 hz2
  unfold NwPost
  go_enter Tryz.func71, Tryz.ntmps71
  go_wp2_with (at_make; refine wpList_make_full _ rfl _ _ 96 rfl (w.heap.size + 1) 4 i0 (.bool false) 1 Tryz.underlying96 HI.out HI0.out HI1.out .i64 .i64 _ _ n rfl rfl (by first | rfl | exact hn) (by first | rfl | exact hn) (by rw [HI2.out]; omega) (by unfold maxLen; omega) (by rw [hz]; exact Nat.le_refl _) ?_; intro w1 hown hgr; rw [show Value.cells (.bool false) = #[.bool false] from rfl, made_cells] at hown; rw [hz] at hown; have HOWN := Lib.hid hown; have M1 := Lib.hid ((hgr.block w.heap.size (row_lt HR0.out) (by simp)).trans HR0.out); have B1 := Lib.hid (HB0.out.grown hgr HB0.out.size (fun k e => by cases e)); clear c0 c1; obtain ⟨c0, c1⟩ := geCells M1.out; clear hown hgr)
  have HEW := Lib.hid (fun w' (hb : Below w.heap.size w w') => Row.below h0 hb)
  go_loopw [18] (fun ii wr => ∃ j : Nat, j ≤ k ∧ ii = .int .i64 (j : Int) ∧ wr.ownsRow (w.heap.size + 1) 4 1 (.slice (some ⟨w.heap.size + 1, 0, none⟩) n n) n (rl (fun q => Value.bool (nwB a c t j q)) n) ∧ Below w.heap.size w wr) (fun ii _ => k - (intOf ii).toNat)
  case atStart => exact ⟨0, by omega, rfl, by rw [rl_cong (g := fun _ => Value.bool false) (fun q _ => by rw [HN0.out])]; exact HOWN.out, B1.out⟩
  case round =>
    obtain ⟨j, hj, rfl, hown, hbl⟩ := hrel
    have HO := Lib.hid hown
    have HBL := Lib.hid hbl
    clear hown hbl
    by_cases hlt : j < k
    · obtain ⟨b, off, hA, -, hbk, hac⟩ := (HEW.out _ HBL.out).ac (show j < a.e.length by omega)
      have hA : A = some ⟨b, off, none⟩ := hA
      subst hA
      obtain ⟨y0, y1, y2, y3, y4, y5, y6⟩ := hac
      have htj := HT.out j hlt
      obtain ⟨-, -, hp0, hp1, hfit⟩ := HEV.out j (by omega)
      have HPUT := Lib.hid (fun P => nwB_put (a := a) (c := c) (t := t) (k := j) (P := P) htj)
      have HREM := Lib.hid (fun P => nwB_rem (a := a) (c := c) (t := t) (k := j) (P := P) htj)
      have HCPY := Lib.hid (fun P f => nwB_cpy (a := a) (c := c) (t := t) (k := j) (P := P) (f := f) htj)
      have HOTH := Lib.hid (nwB_oth (a := a) (c := c) (t := t) (k := j) htj)
      generalize ag a.e j = x at *
      obtain ⟨xt, xk, xp, xr, xu, xc, xf⟩ := x
      unfold fitP at hfit
      simp only at y0 y1 y2 y3 y4 y5 y6 hp0 hp1 hfit HPUT HREM HCPY HOTH
      obtain ⟨P, rfl⟩ : ∃ P : Nat, xp = P := ⟨xp.toNat, by omega⟩
      have hbx := box_below wr (.cells #[.int .i64 xt, .int .i64 xk, .int .i64 (P : Int), .int .i64 xr, .int .i64 xu, .int .i64 xc, .int .i64 xf] 76)
      have XN := heap_alloc_new wr (.cells #[.int .i64 xt, .int .i64 xk, .int .i64 (P : Int), .int .i64 xr, .int .i64 xu, .int .i64 xc, .int .i64 xf] 76)
      obtain ⟨n0, n1, n2, n3, n4, n5, n6⟩ := accCells (x := ⟨xt, xk, (P : Int), xr, xu, xc, xf⟩) XN
      simp only at n0 n1 n2 n3 n4 n5 n6
      have BX := Lib.hid (HBL.out.trans (hbx.mono HBL.out.size))
      have OX := Lib.hid (own_below HO.out hbx)
      have i0' : (0 : Int) ≤ (j : Int) := by omega
      have i1' : (j : Int) < (k : Int) := by omega
      have hPn : P < n := by omega
      have q0 : (0 : Int) ≤ (P : Int) := by omega
      have q1 : (P : Int) < (n : Int) := by omega
      have hgs : w.heap.size + 1 < (wr.alloc (.cells #[.int .i64 xt, .int .i64 xk, .int .i64 (P : Int), .int .i64 xr, .int .i64 xu, .int .i64 xc, .int .i64 xf] 76)).heap.size := (OX.out.lt _ rfl).2
      have HGS := Lib.hid hgs
      clear hbx XN htj hgs
      have hcl : (wr.alloc (.cells #[.int .i64 xt, .int .i64 xk, .int .i64 (P : Int), .int .i64 xr, .int .i64 xu, .int .i64 xc, .int .i64 xf] 76)).cell? ⟨w.heap.size + 1, P, none⟩ = some (.bool (nwB a c t j P)) := by
        have := (own_put (u := .bool true) OX.out hPn).1
        rw [rl_at _ _ _ hPn] at this
        exact this
      have hfz : (wr.alloc (.cells #[.int .i64 xt, .int .i64 xk, .int .i64 (P : Int), .int .i64 xr, .int .i64 xu, .int .i64 xc, .int .i64 xf] 76)).frozen? ⟨w.heap.size + 1, P, none⟩ = false := (own_put (u := .bool true) OX.out hPn).2.1
      have HPT := Lib.hid (fun (u : Bool) (F : Nat → Bool) (hF : ∀ q, F q = if q = P then u else nwB a c t j q) => (by
        have h1 := (own_put (u := .bool u) OX.out hPn)
        rw [rl_set _ _ _ _ hPn] at h1
        refine ⟨?_, ?_⟩
        · rw [show (fun q => Value.bool (F q)) = (fun q => if q = P then Value.bool u else Value.bool (nwB a c t j q)) from funext fun q => by rw [hF q]; split <;> rfl]
          exact h1.2.2.1
        · exact BX.out.grown h1.2.2.2 BX.out.size (fun g e => by cases e; have := HB0.out.size; omega) :
        ((wr.alloc (.cells #[.int .i64 xt, .int .i64 xk, .int .i64 (P : Int), .int .i64 xr, .int .i64 xu, .int .i64 xc, .int .i64 xf] 76)).setCell ⟨w.heap.size + 1, P, none⟩ (.bool u)).ownsRow (w.heap.size + 1) 4 1 (.slice (some ⟨w.heap.size + 1, 0, none⟩) n n) n (rl (fun q => Value.bool (F q)) n) ∧ Below w.heap.size w ((wr.alloc (.cells #[.int .i64 xt, .int .i64 xk, .int .i64 (P : Int), .int .i64 xr, .int .i64 xu, .int .i64 xc, .int .i64 xf] 76)).setCell ⟨w.heap.size + 1, P, none⟩ (.bool u))))
      by_cases h5 : xk = 5
      · subst h5
        have HF := Lib.hid (HPUT.out P rfl rfl)
        clear HPUT HREM HCPY HOTH
        cases hb : nwB a c t j P with
        | true =>
          rw [hb] at hcl HF
          clear hb hfit
          go_wp2_with fail
          generalize wr.alloc (.cells #[.int .i64 xt, .int .i64 5, .int .i64 (P : Int), .int .i64 xr, .int .i64 xu, .int .i64 xc, .int .i64 xf] 76) = W at *
          go_still_tail 15, (by kernel_rfl)
          change wpList _ _ _ _ _ W.drew
          go_wp2_with fail
          exact ⟨⟨j + 1, by omega, by go_num, (HPT.out true (nwB a c t (j + 1)) (fun q => by rw [HF.out q, Bool.true_or])).1, (HPT.out true (nwB a c t (j + 1)) (fun q => by rw [HF.out q, Bool.true_or])).2.drew⟩, by simp [intOf]; omega⟩
        | false =>
          rw [hb] at hcl HF
          clear hb hfit
          go_wp2_with fail
          generalize wr.alloc (.cells #[.int .i64 xt, .int .i64 5, .int .i64 (P : Int), .int .i64 xr, .int .i64 xu, .int .i64 xc, .int .i64 xf] 76) = W at *
          go_still_tail 15, (by kernel_rfl)
          change wpList _ _ _ _ _ W.drew
          go_wp2_with fail
          exact ⟨⟨j + 1, by omega, by go_num, (HPT.out (xc == c) (nwB a c t (j + 1)) (fun q => by rw [HF.out q, Bool.false_or])).1, (HPT.out (xc == c) (nwB a c t (j + 1)) (fun q => by rw [HF.out q, Bool.false_or])).2.drew⟩, by simp [intOf]; omega⟩
      · by_cases h6 : xk = 6
        · subst h6
          have HF := Lib.hid (HREM.out P rfl rfl)
          clear HPUT HREM HCPY HOTH
          cases hb : nwB a c t j P with
          | true =>
            rw [hb] at hcl HF
            clear hb hfit
            go_wp2_with fail
            generalize wr.alloc (.cells #[.int .i64 xt, .int .i64 6, .int .i64 (P : Int), .int .i64 xr, .int .i64 xu, .int .i64 xc, .int .i64 xf] 76) = W at *
            go_still_tail 15, (by kernel_rfl)
            change wpList _ _ _ _ _ W.drew
            go_wp2_with fail
            exact ⟨⟨j + 1, by omega, by go_num, (HPT.out (xc != c) (nwB a c t (j + 1)) (fun q => by rw [HF.out q, Bool.true_and])).1, (HPT.out (xc != c) (nwB a c t (j + 1)) (fun q => by rw [HF.out q, Bool.true_and])).2.drew⟩, by simp [intOf]; omega⟩
          | false =>
            rw [hb] at hcl HF
            clear hb hfit
            go_wp2_with fail
            generalize wr.alloc (.cells #[.int .i64 xt, .int .i64 6, .int .i64 (P : Int), .int .i64 xr, .int .i64 xu, .int .i64 xc, .int .i64 xf] 76) = W at *
            go_still_tail 15, (by kernel_rfl)
            change wpList _ _ _ _ _ W.drew
            go_wp2_with fail
            exact ⟨⟨j + 1, by omega, by go_num, (HPT.out false (nwB a c t (j + 1)) (fun q => by rw [HF.out q, Bool.false_and])).1, (HPT.out false (nwB a c t (j + 1)) (fun q => by rw [HF.out q, Bool.false_and])).2.drew⟩, by simp [intOf]; omega⟩
        · by_cases h7 : xk = 7
          · subst h7
            obtain ⟨f, rfl⟩ : ∃ f : Nat, xf = f := ⟨xf.toNat, by omega⟩
            have hfn : f < n := by omega
            have f0 : (0 : Int) ≤ (f : Int) := by omega
            have f1 : (f : Int) < (n : Int) := by omega
            have HF := Lib.hid (HCPY.out P f rfl rfl rfl)
            have hcf : (wr.alloc (.cells #[.int .i64 xt, .int .i64 7, .int .i64 (P : Int), .int .i64 xr, .int .i64 xu, .int .i64 xc, .int .i64 (f : Int)] 76)).cell? ⟨w.heap.size + 1, f, none⟩ = some (.bool (nwB a c t j f)) := by
              have := (own_put (u := .bool true) OX.out hfn).1
              rw [rl_at _ _ _ hfn] at this
              exact this
            clear HPUT HREM HCPY HOTH
            cases hb : nwB a c t j P with
            | true =>
              rw [hb] at hcl HF
              clear hb hfit
              go_wp2_with fail
              generalize wr.alloc (.cells #[.int .i64 xt, .int .i64 7, .int .i64 (P : Int), .int .i64 xr, .int .i64 xu, .int .i64 xc, .int .i64 (f : Int)] 76) = W at *
              go_still_tail 16, (by kernel_rfl)
              change wpList _ _ _ _ _ W.drew
              go_wp2_with fail
              exact ⟨⟨j + 1, by omega, by go_num, (HPT.out true (nwB a c t (j + 1)) (fun q => by rw [HF.out q, Bool.true_or])).1, (HPT.out true (nwB a c t (j + 1)) (fun q => by rw [HF.out q, Bool.true_or])).2.drew⟩, by simp [intOf]; omega⟩
            | false =>
              rw [hb] at hcl HF
              clear hb hfit
              generalize hbf : nwB a c t j f = bf at *
              go_wp2_with fail
              generalize wr.alloc (.cells #[.int .i64 xt, .int .i64 7, .int .i64 (P : Int), .int .i64 xr, .int .i64 xu, .int .i64 xc, .int .i64 (f : Int)] 76) = W at *
              go_still_tail 16, (by kernel_rfl)
              change wpList _ _ _ _ _ W.drew
              go_wp2_with fail
              exact ⟨⟨j + 1, by omega, by go_num, (HPT.out bf (nwB a c t (j + 1)) (fun q => by rw [HF.out q, Bool.false_or])).1, (HPT.out bf (nwB a c t (j + 1)) (fun q => by rw [HF.out q, Bool.false_or])).2.drew⟩, by simp [intOf]; omega⟩
          · have HF := Lib.hid (HOTH.out h5 h6 h7)
            have e5 : (xk == 5) = false := beq_eq_false_iff_ne.2 h5
            have e6 : (xk == 6) = false := beq_eq_false_iff_ne.2 h6
            have e7 : (xk == 7) = false := beq_eq_false_iff_ne.2 h7
            clear HPUT HREM HCPY HOTH hfit h5 h6 h7 hcl hfz
            go_wp2_with fail
            exact ⟨⟨j + 1, by omega, by go_num, by rw [rl_cong (g := fun q => Value.bool (nwB a c t j q)) (fun q _ => by rw [HF.out q])]; exact OX.out, BX.out⟩, by simp [intOf]; omega⟩
    · obtain rfl : j = k := by omega
      go_wp2_with fail
      go_ret
      exact ⟨_, _, rfl, own_base HO.out (by omega), HBL.out⟩

end Go.Proofs.YtgknfkmojhganaaGreat.Di

namespace Go.Proofs.YtgknfkmojhganaaGreat.Di
open Go.RowKit
open Go.Proofs.YtgknfkmojhganaaGreat.Tp
set_option linter.unusedVariables false
set_option linter.unusedSimpArgs false

set_option maxRecDepth 100000 in
set_option maxHeartbeats 4000000 in
/-- The contents of a place, at a time at which all has happened. -/
theorem xholds_any (a : Es) (v : Ve) (P n : Nat) (t : Int) (w : World) (h : EL w 0 a v) (hok : Eok a) (hn : a.n = (n : Int)) (hP : P < n) (ht : ∀ j, j < a.e.length → (ag a.e j).t ≤ t) (hvc : a.e.length ≤ v.c) :
    Calls Tryz.prog 36 #[.agg (ge a v), .int .i64 (P : Int), .int .i64 t] w (SmPost (fun c => wB a (c : Int) t P) 64 w) := by
  have hm := hok.m
  have hb0 := box_below w (.cells (ge a v) 28)
  have HB0 := Lib.hid hb0
  have HR0 := Lib.hid (heap_alloc_new w (.cells (ge a v) 28))
  obtain ⟨c0, c1⟩ := geCells HR0.out
  have HPL := Lib.hid (fun w' (hb : Below w.heap.size w w') => place_yes a v (P : Int) w' (vay_of (Row.below h hb) hok) ⟨hok.n1, hok.n16⟩ ⟨by omega, by omega⟩)
  have hha := fun w' (hb : Below w.heap.size w w') => happened_all a v t w' (Row.below h hb) hm ht
  have hnw := fun (c : Nat) w' (hb : Below w.heap.size w w') => xnow_any a v (c : Int) t a.e.length n w' (Row.below h hb) hok hn (Nat.le_refl _) ht hvc
  unfold NwPost at hnw
  obtain ⟨q, hqq⟩ : ∃ q : Nat → Bool, (fun c : Nat => wB a (c : Int) t P) = q := ⟨_, rfl⟩
  rw [hqq]
  have HNQ := Lib.hid (fun c : Nat => (show nwB a (c : Int) t a.e.length P = q c by rw [← hqq]; rfl))
  simp only [ge] at hha hnw
  have HHA := Lib.hid hha
  have HNW := Lib.hid hnw
  have HF := Lib.hid (show (#[.int .i64 a.n, .slice v.A a.e.length v.c] : Array Value) = ge a v from rfl)
  obtain ⟨j0, hj1, hy0, hy1, hy2⟩ := info_parts zinfo3
  have HJ := Lib.hid hj1
  have HJ0 := Lib.hid hy0
  have HJ1 := Lib.hid hy1
  have HJ2 := Lib.hid hy2
  have P0 : (0 : Int) ≤ (P : Int) := by omega
  have P1 : (P : Int) < (n : Int) := by omega
  clear h hok hn ht hvc hb0 hha hnw hqq hj1 hy0 hy1 hy2
  go_enter Tryz.func36, Tryz.ntmps36
  go_wp2_with (go_at_call 42; rw [HF.out]; refine (HPL.out _ HB0.out).mono ?_; rintro e w1 ⟨rfl, hb1⟩; have B1 := Lib.hid (HB0.out.trans (hb1.mono HB0.out.size)); have M1 := Lib.hid ((hb1.block _ (row_lt HR0.out)).trans HR0.out); clear hb1 c0 c1)
  go_loopw [7, 8] (fun ov cv wr => ∃ (k : Nat) (A' : Option Addr) (c' : Nat), k ≤ 64 ∧ ov = .slice A' (cnt q k) c' ∧ cv = .int .i64 (k : Int) ∧ wr.ownsRow w1.heap.size 3 1 (.slice A' (cnt q k) c') (cnt q k) (iv (idx q k)) ∧ Below w1.heap.size w1 wr) (fun _ cv _ => 64 - (intOf cv).toNat)
  case atStart => exact ⟨0, none, 0, by omega, rfl, rfl, own_nil _ _ _ _, Below.refl _ _⟩
  case round =>
    obtain ⟨k, A', c', hk, rfl, rfl, hown, hbl⟩ := hrel
    have HOW := Lib.hid hown
    have HBL := Lib.hid hbl
    have hcn := cnt_le q k
    clear hown hbl
    by_cases hlt : k < 64
    · have d1 : decide ((k : Int) ≤ 63) = true := decide_eq_true (by omega)
      have hkp : ∀ w', Below wr.heap.size wr w' → w'.cell? ⟨w.heap.size, 0, none⟩ = some (.int .i64 a.n) ∧ w'.cell? ⟨w.heap.size, 1, none⟩ = some (.slice v.A a.e.length v.c) ∧ Below wr.heap.size wr w' := fun w' hb =>
        have a1 := geCells (((HBL.out.trans (hb.mono HBL.out.size)).block _ (row_lt M1.out)).trans M1.out)
        ⟨a1.1, a1.2, hb⟩
      have HKP := Lib.hid hkp
      have HBW := Lib.hid (fun w' (hb : Below wr.heap.size wr w') => B1.out.trans ((HBL.out.trans (hb.mono HBL.out.size)).mono B1.out.size))
      have HNK := Lib.hid (HNW.out k)
      have HQK := Lib.hid (HNQ.out k)
      have bz1 : Below wr.heap.size wr wr.drew := (Below.refl wr.heap.size wr).drew
      clear hkp
      go_upto_region 7 with fail
      go_cut [25] from 17 to 25 (fun s wx => s = .bool (q k) ∧ Below wr.heap.size wr wx)
      case first =>
        obtain ⟨u0, u1, -⟩ := HKP.out _ (Below.refl _ _)
        go_region_with (first
          | (go_at_call 72; refine (HHA.out _ (HBW.out _ (by first | exact Below.refl _ _ | exact bz1))).mono ?_; rintro e wa1 ⟨rfl, hbb⟩; have BA := Lib.hid (show Below wr.heap.size wr wa1 from (by first | exact hbb | exact bz1.trans (hbb.mono (Nat.le_refl _)))); clear hbb; obtain ⟨u0, u1, -⟩ := HKP.out _ BA.out)
          | (go_at_call 71; refine (HNK.out _ (HBW.out _ (by first | exact BA.out | exact BA.out.drew))).mono ?_; rintro e wa2 ⟨G, cc, rfl, hown2, hbb⟩; have BB := Lib.hid (show Below wr.heap.size wr wa2 from (by first | exact BA.out.trans (hbb.mono BA.out.size) | exact BA.out.drew.trans (hbb.mono BA.out.size))); have hcl := (own_put (u := .bool true) hown2 hP).1; rw [rl_at _ _ _ hP, HQK.out] at hcl; clear hbb hown2))
        all_goals
          go_wp2_with fail
          go_meet
          case rel => exact ⟨rfl, by first | exact BB.out | exact BB.out.drew⟩
      case rest =>
      obtain ⟨rfl, hbw⟩ := hcut
      rename World => W3
      have B3 := Lib.hid (HBL.out.trans (hbw.mono HBL.out.size))
      have O3 := Lib.hid (own_below HOW.out hbw)
      have hs3 := B3.out.size
      clear hbw bz1
      cases hqk : q k with
      | true =>
        have HI := Lib.hid (idx_tt hqk)
        have HC := Lib.hid (cnt_tt hqk)
        have HSV := Lib.hid (iv_snoc (idx q k) k)
        clear hqk
        go_wp2_with (at_builtin; refine wpList_append_own _ rfl (.tmp 26) (.tmp 28) 22 rfl w1.heap.size 3 j0 (.int .i64 0) 1 8 Tryz.underlying22 HJ.out HJ0.out HJ1.out HJ2.out rfl (by decide) _ (cnt q k) (iv (idx q k)) rfl (O3.out.alloc _) ⟨W3.heap.size, 0, none⟩ 1 1 [.int .i64 (k : Int)] rfl rfl (World.news_of_block (heap_alloc_new W3 _)) (by simp [Value.oneCell']) (by unfold maxLen; omega) (by omega) (by simp; omega) ?_; intro v' w6 hown6 hgr _; obtain ⟨A6, c6, rfl⟩ := own_form hown6; have O6 := Lib.hid hown6; have B6 := Lib.hid ((B3.out.trans ((box_below _ _).mono B3.out.size)).grown hgr (by simp; omega) (fun g e => (O3.out.lt g e).1)); clear hown6 hgr)
        exact ⟨⟨k + 1, A6, c6, by omega, by rw [HC.out], by go_num, by rw [HC.out, HI.out, HSV.out]; exact O6.out, B6.out⟩, by simp [intOf]; omega⟩
      | false =>
        have HI := Lib.hid (idx_ff hqk)
        have HC := Lib.hid (cnt_ff hqk)
        clear hqk
        go_wp2_with fail
        exact ⟨⟨k + 1, A', c', by omega, by rw [HC.out], by go_num, by rw [HC.out, HI.out]; exact O3.out, B3.out⟩, by simp [intOf]; omega⟩
    · obtain rfl : k = 64 := by omega
      have d1 : decide (((64 : Nat) : Int) ≤ 63) = false := by decide
      go_wp2_with fail
      go_ret
      exact ⟨A', c', rfl, own_base HOW.out (by have := B1.out.size; omega), B1.out.trans (HBL.out.mono B1.out.size)⟩

end Go.Proofs.YtgknfkmojhganaaGreat.Di

namespace Go.Proofs.YtgknfkmojhganaaGreat.Di
set_option linter.unusedVariables false

theorem wB_to {a : Es} {lt c : Int} {f o : Nat} (h : wB a c lt f = true) : wB ⟨a.n, a.e ++ [⟨lt, 7, (o : Int), 0, 0, 0, (f : Int)⟩]⟩ c lt o = true := by
  unfold wB at h ⊢
  show (!(wyA (a.e ++ [⟨lt, 7, (o : Int), 0, 0, 0, (f : Int)⟩]) c lt (o : Int)).isEmpty) = true
  rw [emp_iff] at h ⊢
  rw [wyA_snoc, if_neg (show ¬ lt < lt by omega)]
  show wst a.e.length ⟨lt, 7, (o : Int), 0, 0, 0, (f : Int)⟩ c (wyA a.e c lt) (o : Int) ≠ []
  unfold wst
  rw [if_neg (show ¬ (7 : Int) = 5 by decide), if_neg (show ¬ (7 : Int) = 6 by decide), if_pos rfl]
  by_cases h1 : wyA a.e c lt (o : Int) = []
  · rw [if_pos ⟨rfl, h, h1⟩]
    simp
  · rw [if_neg (fun h2 => h1 h2.2.2)]
    exact h1
theorem copy_is {d : Dy} {a : Es} {lt f o n p : Nat} {c : Int} (hn : o < n) (h : wB a c (lt : Int) f = true) (hm : mayB d ⟨a.n, a.e ++ [⟨(lt : Int), 7, (o : Int), 0, 0, 0, (f : Int)⟩]⟩ p o lt = true) :
    xwB d ⟨a.n, a.e ++ [⟨(lt : Int), 7, (o : Int), 0, 0, 0, (f : Int)⟩]⟩ n c (p : Int) lt = true ∧ ∃ T, siF d ⟨a.n, a.e ++ [⟨(lt : Int), 7, (o : Int), 0, 0, 0, (f : Int)⟩]⟩ n c (p : Int) = some T ∧ T ≤ lt := by
  have hx : xwB d ⟨a.n, a.e ++ [⟨(lt : Int), 7, (o : Int), 0, 0, 0, (f : Int)⟩]⟩ n c (p : Int) lt = true := by
    unfold xwB
    rw [any_iff]
    refine ⟨o, hn, ?_⟩
    rw [Bool.and_eq_true]
    refine ⟨wB_to h, ?_⟩
    unfold xB
    rw [if_neg (by omega)]
    exact hm
  obtain ⟨T, h1, h2⟩ := leM_ex lt (.inl ⟨a.e.length, by simp, by show (ag (a.e ++ [_]) a.e.length).t = _; rw [ag_end]⟩) hx
  exact ⟨hx, T, siF_yes h1, h2⟩

end Go.Proofs.YtgknfkmojhganaaGreat.Di
