import Derived.Test.YtgknfkmojhganaaGreatExAll
import Derived.Test.YtgknfkmojhganaaGreatRdTwo
import Derived.StillTailTactics
import Derived.Deep.RegionHeld3
import Derived.Deep.RegionWith

namespace Go.Proofs.YtgknfkmojhganaaGreat.Di
open Go.RowKit
open Go.Proofs.YtgknfkmojhganaaGreat.Tp
set_option linter.unusedVariables false
set_option linter.unusedSimpArgs false

set_option maxRecDepth 100000 in
set_option maxHeartbeats 2000000 in
/-- The product's Could. -/
theorem xcould_any (d : Dy) (v : Vd) (a : Es) (u : Ve) (n : Nat) (c p : Int) (t : Nat) (w : World) (h : DL w 0 d v) (hok : Ok d) (he : EL w 0 a u) (hea : Eok a) (hn : a.n = (n : Int)) (hc : 0 ≤ c ∧ c < 64) (hp : -1 ≤ p) (ht : t ≤ 1099511627776) :
    Calls Tryz.prog 37 #[.agg (gd d v), .agg (ge a u), .int .i64 c, .int .i64 p, .int .i64 (t : Int)] w fun e w' => e = .returned (.bool (xwB d a n c p t)) ∧ Below w.heap.size w w' := by
  have hbx := (box_below w (.cells (gd d v) 25)).trans ((box_below (w.alloc (.cells (gd d v) 25)) (.cells (ge a u) 28)).mono (by simp))
  have HBX := Lib.hid hbx
  have D1 := Lib.hid (heap_alloc2_old w (.cells (gd d v) 25) (.cells (ge a u) 28))
  have E1 := Lib.hid (heap_alloc2_new w (.cells (gd d v) 25) (.cells (ge a u) 28))
  obtain ⟨g0, g1⟩ := gdCells D1.out
  obtain ⟨c0, c1⟩ := geCells E1.out
  have HCK := Lib.hid (xcheck_ok d v a u c _ (h.below hbx) hok (Row.below he hbx) hea hc)
  have HWH := Lib.hid (fun w' (hb : Below w.heap.size w w') => xwhere_any d v a u n c p t w' (h.below hb) hok (Row.below he hb) hea hn hc hp)
  have HFD := Lib.hid (show (#[.slice v.A1 d.k.length v.c1, .slice v.A2 d.e.length v.c2] : Array Value) = gd d v from rfl)
  have HFE := Lib.hid (show (#[.int .i64 a.n, .slice u.A a.e.length u.c] : Array Value) = ge a u from rfl)
  have lD := row_lt D1.out
  have lE := row_lt E1.out
  have d1 : decide ((t : Int) < 0) = false := decide_eq_false (by omega)
  have d2 : decide ((1099511627776 : Int) < (t : Int)) = false := decide_eq_false (by omega)
  generalize xwB d a n c p t = xb at *
  clear h hok he hea hn hc hp hbx
  go_enter Tryz.func37, Tryz.ntmps37
  go_wp2_with (first
    | (go_at_call 68; rw [HFD.out, HFE.out]; refine HCK.out.mono ?_; rintro e w1 ⟨rfl, hb1⟩; have B1 := Lib.hid (HBX.out.trans (hb1.mono HBX.out.size)); have D2 := Lib.hid ((hb1.block _ lD).trans D1.out); have E2 := Lib.hid ((hb1.block _ lE).trans E1.out); clear hb1 g0 g1 c0 c1; obtain ⟨g0, g1⟩ := gdCells D2.out; obtain ⟨c0, c1⟩ := geCells E2.out)
    | (go_at_call 73; rw [HFD.out, HFE.out]; refine (HWH.out _ B1.out).mono ?_; rintro e w2 ⟨z, rfl, -, hb2⟩; have B2 := Lib.hid (B1.out.trans (hb2.mono B1.out.size)); clear hb2 g0 g1 c0 c1))
  go_ret
  exact ⟨by first | rfl | simp, B2.out⟩
/-- Is a number in a list of what holds? -/
def hsB (r : Nat → Bool) (n x : Nat) : Bool := anyB (fun i => (idx r n).getD i 0 == x) (cnt r n)
theorem hsB_iff {r : Nat → Bool} {n x : Nat} : hsB r n x = true ↔ x < n ∧ r x = true := by
  unfold hsB
  constructor
  · intro h
    rw [any_iff] at h
    obtain ⟨i, hi, h⟩ := h
    have := at_idx hi
    rw [beq_iff_eq] at h
    rw [h] at this
    exact this
  · rintro ⟨h1, h2⟩
    rw [has_idx r n x h1]
    exact h2
theorem key_has {d : Dy} {a : Es} (hea : Eok a) {p P t : Nat} (hP : (P : Int) < a.n) : anyB (fun j => hsB (upB d t p) d.k.length ((idx (gdB a (P : Int) (t : Int)) 24).getD j 0)) (cnt (gdB a (P : Int) (t : Int)) 24) = anyB (keyB d a p P t) d.k.length := by
  apply Bool.eq_iff_iff.2
  rw [any_iff, any_iff]
  constructor
  · rintro ⟨j, hj, h⟩
    obtain ⟨h1, h2⟩ := at_idx hj
    rw [hsB_iff] at h
    refine ⟨_, h.1, ?_⟩
    unfold keyB
    rw [h.2, h2]; rfl
  · rintro ⟨x, hx, h⟩
    unfold keyB at h
    rw [Bool.and_eq_true] at h
    have hg := h.2
    rw [gdB_yes ⟨hea, by omega, hP⟩] at hg
    obtain ⟨k, hk⟩ := Option.isSome_iff_exists.1 hg
    have hr := hea.gr_rng hk
    have hmm := (idx_mem (gdB a (P : Int) (t : Int)) x 24).2 ⟨by omega, h.2⟩
    obtain ⟨j, hj, e⟩ := List.mem_iff_getElem.1 hmm
    refine ⟨j, by rw [← idx_len]; exact hj, ?_⟩
    rw [show (idx (gdB a (P : Int) (t : Int)) 24).getD j 0 = x by rw [List.getD_eq_getElem?_getD, List.getElem?_eq_getElem hj]; exact e, hsB_iff]
    exact ⟨hx, h.1⟩
set_option maxRecDepth 100000 in
set_option maxHeartbeats 2000000 in
/-- The reference's granted: is there a principal above with a grant? -/
theorem rgrd_any (d : Dy) (v : Vd) (a : Es) (u : Ve) (p P t : Nat) (w : World) (h : DL w 0 d v) (hok : Ok d) (he : EL w 0 a u) (hea : Eok a) (hP : (P : Int) < a.n) :
    Calls Tryz.prog 43 #[.agg (gd d v), .agg (ge a u), .int .i64 (p : Int), .int .i64 (P : Int), .int .i64 (t : Int)] w fun e w' => e = .returned (.bool (anyB (keyB d a p P t) d.k.length)) ∧ Below w.heap.size w w' := by
  have hbx := (box_below w (.cells (gd d v) 25)).trans ((box_below (w.alloc (.cells (gd d v) 25)) (.cells (ge a u) 28)).mono (by simp))
  have HBX := Lib.hid hbx
  have D1 := Lib.hid (heap_alloc2_old w (.cells (gd d v) 25) (.cells (ge a u) 28))
  have E1 := Lib.hid (heap_alloc2_new w (.cells (gd d v) 25) (.cells (ge a u) 28))
  obtain ⟨g0, g1⟩ := gdCells D1.out
  obtain ⟨c0, c1⟩ := geCells E1.out
  have hup := rupw_any d v p t _ (h.below hbx) hok
  have hgt := fun w' (hb : Below w.heap.size w w') => rgranted_any a u (P : Int) (t : Int) w' (Row.below he hb) hea ⟨by omega, hP⟩
  unfold SmPost at hup hgt
  have HUP := Lib.hid hup
  have HGT := Lib.hid hgt
  have HFD := Lib.hid (show (#[.slice v.A1 d.k.length v.c1, .slice v.A2 d.e.length v.c2] : Array Value) = gd d v from rfl)
  have HFE := Lib.hid (show (#[.int .i64 a.n, .slice u.A a.e.length u.c] : Array Value) = ge a u from rfl)
  have lD := row_lt D1.out
  have lE := row_lt E1.out
  have hn := hok.n
  have hkh := key_has (d := d) hea (p := p) (t := t) hP
  rw [← hkh]
  have HHS := Lib.hid (fun (x : Nat) X xc w' (hr : Row w' 0 1 X (cnt (upB d t p) d.k.length) (iv (idx (upB d t p) d.k.length))) => (show Calls Tryz.prog 65 #[.slice X (cnt (upB d t p) d.k.length) xc, .int .i64 (x : Int)] w' fun e w'' => e = .returned (.bool (hsB (upB d t p) d.k.length x)) ∧ w'' = w' from has_any (idx (upB d t p) d.k.length) x X (cnt (upB d t p) d.k.length) xc w' hr (by have := cnt_le (upB d t p) d.k.length; omega)))
  have hm := cnt_le (gdB a (P : Int) (t : Int)) 24
  generalize hsB (upB d t p) d.k.length = hs at *
  generalize cnt (gdB a (P : Int) (t : Int)) 24 = m at *
  generalize idx (gdB a (P : Int) (t : Int)) 24 = LG at *
  generalize cnt (upB d t p) d.k.length = um at *
  generalize idx (upB d t p) d.k.length = LU at *
  clear h hok he hea hP hbx hup hgt hkh hn
  go_enter Tryz.func43, Tryz.ntmps43
  go_wp2_with (first
    | (go_at_call 23; rw [HFD.out]; refine HUP.out.mono ?_; rintro e w1 ⟨X, xc, rfl, hown, hb1⟩; have B1 := Lib.hid (HBX.out.trans (hb1.mono HBX.out.size)); have RX := Lib.hid ((row_of_own hown).base (Nat.zero_le _)); have E2 := Lib.hid ((hb1.block _ lE).trans E1.out); clear hb1 hown g0 g1 c0 c1; obtain ⟨c0, c1⟩ := geCells E2.out)
    | (go_at_call 66; rw [HFE.out]; refine (HGT.out _ B1.out).mono ?_; rintro e w2 ⟨Y, yc, rfl, hown, hb2⟩; have B2 := Lib.hid (B1.out.trans (hb2.mono B1.out.size)); have RY := Lib.hid ((row_of_own hown).base (Nat.zero_le _)); have RX2 := Lib.hid (RX.out.below hb2); clear hb2 hown c0 c1))
  go_loopw [23] (fun ii wr => ∃ j : Nat, j ≤ m ∧ ii = .int .i64 (j : Int) ∧ (∀ i, i < j → hs (LG.getD i 0) = false) ∧ Below w2.heap.size w2 wr) (fun ii _ => m - (intOf ii).toNat)
  case atStart => exact ⟨0, by omega, rfl, fun i hi => absurd hi (by omega), Below.refl _ _⟩
  case round =>
    obtain ⟨j, hj, rfl, hno, hbl⟩ := hrel
    have HNO := Lib.hid hno
    have HBL := Lib.hid hbl
    clear hno hbl
    by_cases hlt : j < m
    · obtain ⟨b, off, hA, -, -, y0⟩ := (RY.out.below HBL.out).int hlt
      subst hA
      have i0 : (0 : Int) ≤ (j : Int) := by omega
      have i1 : (j : Int) < (m : Int) := by omega
      have HH := Lib.hid (HHS.out (LG.getD j 0) X xc wr (RX2.out.below HBL.out))
      obtain ⟨x, hx⟩ : ∃ x, LG.getD j 0 = x := ⟨_, rfl⟩
      rw [hx] at y0 HH
      have HXX := Lib.hid hx
      clear hx
      cases hb : hs x with
      | true =>
        rw [hb] at HH
        have HANY := Lib.hid (show anyB (fun j => hs (LG.getD j 0)) m = true from (any_iff _ _).2 ⟨j, hlt, by show hs (LG.getD j 0) = true; rw [HXX.out]; exact hb⟩)
        clear hb
        go_wp2_with (go_at_call 65; refine HH.out.mono ?_; rintro e w3 ⟨rfl, rfl⟩)
        go_ret
        exact ⟨by rw [HANY.out]; rfl, B2.out.trans (HBL.out.mono B2.out.size)⟩
      | false =>
        rw [hb] at HH
        have HB := Lib.hid hb
        clear hb
        go_wp2_with (go_at_call 65; refine HH.out.mono ?_; rintro e w3 ⟨rfl, rfl⟩)
        exact ⟨⟨j + 1, by omega, by go_num, fun i hi => by
          by_cases e : i = j
          · rw [e, HXX.out]; exact HB.out
          · exact HNO.out i (by omega), HBL.out⟩, by simp [intOf]; omega⟩
    · obtain rfl : j = m := by omega
      have HANY := Lib.hid (show anyB (fun j => hs (LG.getD j 0)) j = false from any_no HNO.out)
      go_wp2_with fail
      go_ret
      exact ⟨by rw [HANY.out]; rfl, B2.out.trans (HBL.out.mono B2.out.size)⟩
set_option maxRecDepth 100000 in
set_option maxHeartbeats 2000000 in
/-- The reference's May. -/
theorem rmay_any (d : Dy) (v : Vd) (a : Es) (u : Ve) (p P t : Nat) (w : World) (h : DL w 0 d v) (hok : Ok d) (he : EL w 0 a u) (hea : Eok a) (hP : (P : Int) < a.n) (hcap : a.e.length ≤ u.c) :
    Calls Tryz.prog 14 #[.agg (gd d v), .agg (ge a u), .int .i64 (p : Int), .int .i64 (P : Int), .int .i64 (t : Int)] w fun e w' => e = .returned (.bool (mayB d a p P t)) ∧ Below w.heap.size w w' := by
  have hbx := (box_below w (.cells (gd d v) 25)).trans ((box_below (w.alloc (.cells (gd d v) 25)) (.cells (ge a u) 28)).mono (by simp))
  have HBX := Lib.hid hbx
  have D1 := Lib.hid (heap_alloc2_old w (.cells (gd d v) 25) (.cells (ge a u) 28))
  have E1 := Lib.hid (heap_alloc2_new w (.cells (gd d v) 25) (.cells (ge a u) 28))
  obtain ⟨g0, g1⟩ := gdCells D1.out
  obtain ⟨c0, c1⟩ := geCells E1.out
  have HVA := Lib.hid (rvalid_any d v _ (h.below hbx) hok)
  have HPL := Lib.hid (fun w' (hb : Below w.heap.size w w') => place_yes a u (P : Int) w' (vay_of (Row.below he hb) hea) ⟨hea.n1, hea.n16⟩ ⟨by omega, hP⟩)
  have HRD := Lib.hid (fun w' (hb : Below w.heap.size w w') => reader_any 0 d v p w' (h.below hb) (by have := hok.n; omega))
  have HLK := Lib.hid (fun w' (hb : Below w.heap.size w w') => rlinked_any a u (P : Int) (t : Int) w' (Row.below he hb) hea ⟨by omega, hP⟩ hcap)
  have HGR := Lib.hid (fun w' (hb : Below w.heap.size w w') => rgrd_any d v a u p P t w' (h.below hb) hok (Row.below he hb) hea hP)
  have HFD := Lib.hid (show (#[.slice v.A1 d.k.length v.c1, .slice v.A2 d.e.length v.c2] : Array Value) = gd d v from rfl)
  have HFE := Lib.hid (show (#[.int .i64 a.n, .slice u.A a.e.length u.c] : Array Value) = ge a u from rfl)
  have lD := row_lt D1.out
  have lE := row_lt E1.out
  have hmy : mayB d a p P t = (rB d p && ((lkA a.e (P : Int) (t : Int)).isSome || anyB (keyB d a p P t) d.k.length)) := rfl
  rw [hmy]
  generalize anyB (keyB d a p P t) d.k.length = kb at *
  generalize (lkA a.e (P : Int) (t : Int)).isSome = lb at *
  clear h hok he hea hP hbx hmy hcap
  cases hrb : rB d p with
  | false =>
    rw [hrb] at HRD
    clear hrb
    go_enter Tryz.func14, Tryz.ntmps14
    go_wp2_with (first
      | (go_at_call 41; rw [HFD.out]; refine HVA.out.mono ?_; rintro e w1 ⟨rfl, hb1⟩; have B1 := Lib.hid (HBX.out.trans (hb1.mono HBX.out.size)); have D2 := Lib.hid ((hb1.block _ lD).trans D1.out); have E2 := Lib.hid ((hb1.block _ lE).trans E1.out); clear hb1 g0 g1 c0 c1; obtain ⟨c0, c1⟩ := geCells E2.out)
      | (go_at_call 42; rw [HFE.out]; refine (HPL.out _ B1.out).mono ?_; rintro e w2 ⟨rfl, hb2⟩; have B2 := Lib.hid (B1.out.trans (hb2.mono B1.out.size)); have D3 := Lib.hid ((hb2.block _ (row_lt D2.out)).trans D2.out); clear hb2 c0 c1; obtain ⟨g0, g1⟩ := gdCells D3.out)
      | (go_at_call 33; rw [HFD.out]; refine (HRD.out _ B2.out).mono ?_; rintro e w3 ⟨rfl, hb3⟩; have B3 := Lib.hid (B2.out.trans (hb3.mono B2.out.size)); clear hb3 g0 g1))
    go_ret
    exact ⟨by first | rfl | simp, B3.out⟩
  | true =>
    rw [hrb] at HRD
    clear hrb
    cases lb with
    | true =>
      go_enter Tryz.func14, Tryz.ntmps14
      go_wp2_with (first
        | (go_at_call 41; rw [HFD.out]; refine HVA.out.mono ?_; rintro e w1 ⟨rfl, hb1⟩; have B1 := Lib.hid (HBX.out.trans (hb1.mono HBX.out.size)); have D2 := Lib.hid ((hb1.block _ lD).trans D1.out); have E2 := Lib.hid ((hb1.block _ lE).trans E1.out); clear hb1 g0 g1 c0 c1; obtain ⟨c0, c1⟩ := geCells E2.out)
        | (go_at_call 42; rw [HFE.out]; refine (HPL.out _ B1.out).mono ?_; rintro e w2 ⟨rfl, hb2⟩; have B2 := Lib.hid (B1.out.trans (hb2.mono B1.out.size)); have D3 := Lib.hid ((hb2.block _ (row_lt D2.out)).trans D2.out); have E3 := Lib.hid ((hb2.block _ (row_lt E2.out)).trans E2.out); clear hb2 c0 c1; obtain ⟨g0, g1⟩ := gdCells D3.out)
        | (go_at_call 33; rw [HFD.out]; refine (HRD.out _ B2.out).mono ?_; rintro e w3 ⟨rfl, hb3⟩; have B3 := Lib.hid (B2.out.trans (hb3.mono B2.out.size)); have E4 := Lib.hid ((hb3.block _ (row_lt E3.out)).trans E3.out); clear hb3 g0 g1; obtain ⟨c0, c1⟩ := geCells E4.out)
        | (go_at_call 29; rw [HFE.out]; refine (HLK.out _ B3.out).mono ?_; rintro e w4 ⟨⟨z, rfl⟩, hb4⟩; have B4 := Lib.hid (B3.out.trans (hb4.mono B3.out.size)); clear hb4 c0 c1))
      go_ret
      exact ⟨by first | rfl | simp, B4.out⟩
    | false =>
      go_enter Tryz.func14, Tryz.ntmps14
      go_wp2_with (first
        | (go_at_call 41; rw [HFD.out]; refine HVA.out.mono ?_; rintro e w1 ⟨rfl, hb1⟩; have B1 := Lib.hid (HBX.out.trans (hb1.mono HBX.out.size)); have D2 := Lib.hid ((hb1.block _ lD).trans D1.out); have E2 := Lib.hid ((hb1.block _ lE).trans E1.out); clear hb1 g0 g1 c0 c1; obtain ⟨c0, c1⟩ := geCells E2.out)
        | (go_at_call 42; rw [HFE.out]; refine (HPL.out _ B1.out).mono ?_; rintro e w2 ⟨rfl, hb2⟩; have B2 := Lib.hid (B1.out.trans (hb2.mono B1.out.size)); have D3 := Lib.hid ((hb2.block _ (row_lt D2.out)).trans D2.out); have E3 := Lib.hid ((hb2.block _ (row_lt E2.out)).trans E2.out); clear hb2 c0 c1; obtain ⟨g0, g1⟩ := gdCells D3.out)
        | (go_at_call 33; rw [HFD.out]; refine (HRD.out _ B2.out).mono ?_; rintro e w3 ⟨rfl, hb3⟩; have B3 := Lib.hid (B2.out.trans (hb3.mono B2.out.size)); have D4 := Lib.hid ((hb3.block _ (row_lt D3.out)).trans D3.out); have E4 := Lib.hid ((hb3.block _ (row_lt E3.out)).trans E3.out); clear hb3 g0 g1; obtain ⟨c0, c1⟩ := geCells E4.out)
        | (go_at_call 29; rw [HFE.out]; refine (HLK.out _ B3.out).mono ?_; rintro e w4 ⟨⟨z, rfl⟩, hb4⟩; have B4 := Lib.hid (B3.out.trans (hb4.mono B3.out.size)); have D5 := Lib.hid ((hb4.block _ (row_lt D4.out)).trans D4.out); have E5 := Lib.hid ((hb4.block _ (row_lt E4.out)).trans E4.out); clear hb4 c0 c1; obtain ⟨g0, g1⟩ := gdCells D5.out; obtain ⟨c0, c1⟩ := geCells E5.out)
        | (go_at_call 43; rw [HFD.out, HFE.out]; refine (HGR.out _ B4.out).mono ?_; rintro e w5 ⟨rfl, hb5⟩; have B5 := Lib.hid (B4.out.trans (hb5.mono B4.out.size)); clear hb5 g0 g1 c0 c1))
      go_ret
      exact ⟨by first | rfl | simp, B5.out⟩

end Go.Proofs.YtgknfkmojhganaaGreat.Di

namespace Go.Proofs.YtgknfkmojhganaaGreat.Di
open Go.RowKit
open Go.Proofs.YtgknfkmojhganaaGreat.Tp
set_option linter.unusedVariables false
set_option linter.unusedSimpArgs false

/-- Is a content in a place, behind the first k events? -/
def nwB (a : Es) (c t : Int) (k q : Nat) : Bool := !(wy a.e c t k (q : Int)).isEmpty
theorem nwB_zero (a : Es) (c t : Int) (q : Nat) : nwB a c t 0 q = false := rfl
theorem emp_iff {l : List Nat} : (!l.isEmpty) = true ↔ l ≠ [] := by cases l <;> simp
theorem nwB_iff {a : Es} {c t : Int} {k q : Nat} : nwB a c t k q = true ↔ wy a.e c t k (q : Int) ≠ [] := emp_iff
theorem nwB_put {a : Es} {c t : Int} {k P : Nat} (ht : (ag a.e k).t ≤ t) (hk : (ag a.e k).k = 5) (hp : (ag a.e k).p = (P : Int)) (j : Nat) : nwB a c t (k + 1) j = if j = P then (nwB a c t k P || ((ag a.e k).c == c)) else nwB a c t k j := by
  have e : wy a.e c t (k + 1) = wst k (ag a.e k) c (wy a.e c t k) := by rw [wy, if_neg (by omega)]
  unfold nwB
  rw [e]
  unfold wst
  rw [if_pos hk, hp]
  by_cases hj : j = P
  · subst hj
    rw [if_pos rfl]
    by_cases hc : (ag a.e k).c = c
    · rw [if_pos ⟨hc, rfl⟩, hc]; simp
    · rw [if_neg (fun h => hc h.1), beq_eq_false_iff_ne.2 hc, Bool.or_false]
  · rw [if_neg hj, if_neg (fun h => hj (by omega))]
theorem nwB_rem {a : Es} {c t : Int} {k P : Nat} (ht : (ag a.e k).t ≤ t) (hk : (ag a.e k).k = 6) (hp : (ag a.e k).p = (P : Int)) (j : Nat) : nwB a c t (k + 1) j = if j = P then (nwB a c t k P && ((ag a.e k).c != c)) else nwB a c t k j := by
  have e : wy a.e c t (k + 1) = wst k (ag a.e k) c (wy a.e c t k) := by rw [wy, if_neg (by omega)]
  unfold nwB
  rw [e]
  unfold wst
  rw [if_neg (by omega), if_pos hk, hp]
  by_cases hj : j = P
  · subst hj
    rw [if_pos rfl]
    by_cases hc : (ag a.e k).c = c
    · rw [if_pos ⟨hc, rfl⟩, hc]; simp
    · rw [if_neg (fun h => hc h.1), bne_iff_ne.2 hc, Bool.and_true]
  · rw [if_neg hj, if_neg (fun h => hj (by omega))]
theorem nwB_cpy {a : Es} {c t : Int} {k P f : Nat} (ht : (ag a.e k).t ≤ t) (hk : (ag a.e k).k = 7) (hp : (ag a.e k).p = (P : Int)) (hf : (ag a.e k).f = (f : Int)) (j : Nat) : nwB a c t (k + 1) j = if j = P then (nwB a c t k P || nwB a c t k f) else nwB a c t k j := by
  have e : wy a.e c t (k + 1) = wst k (ag a.e k) c (wy a.e c t k) := by rw [wy, if_neg (by omega)]
  unfold nwB
  rw [e]
  unfold wst
  rw [if_neg (by omega), if_neg (by omega), if_pos hk, hp, hf]
  by_cases hj : j = P
  · subst hj
    rw [if_pos rfl]
    generalize wy a.e c t k (j : Int) = L1
    generalize wy a.e c t k (f : Int) = L2
    by_cases h1 : L1 = []
    · by_cases h2 : L2 = []
      · rw [if_neg (fun h => h.2.1 h2), h1, h2]; rfl
      · rw [if_pos ⟨rfl, h2, h1⟩, emp_iff.2 h2, Bool.or_true, emp_iff]
        simp
    · rw [if_neg (fun h => h1 h.2.2), emp_iff.2 h1, Bool.true_or]
  · rw [if_neg hj, if_neg (fun h => hj (by omega))]
theorem nwB_oth {a : Es} {c t : Int} {k : Nat} (ht : (ag a.e k).t ≤ t) (h5 : (ag a.e k).k ≠ 5) (h6 : (ag a.e k).k ≠ 6) (h7 : (ag a.e k).k ≠ 7) (j : Nat) : nwB a c t (k + 1) j = nwB a c t k j := by
  have e : wy a.e c t (k + 1) = wst k (ag a.e k) c (wy a.e c t k) := by rw [wy, if_neg (by omega)]
  unfold nwB
  rw [e]
  unfold wst
  rw [if_neg h5, if_neg h6, if_neg h7]
theorem rl_cong {α : Type} {f g : Nat → α} {n : Nat} (h : ∀ j, j < n → f j = g j) : rl f n = rl g n := by
  unfold rl
  exact List.map_congr_left fun p hp => h p (List.mem_range.1 hp)
def NwPost (a : Es) (c t : Int) (k n : Nat) (w : World) (e : Ending) (w' : World) : Prop := ∃ (G cc : Nat), e = .returned (.slice (some ⟨G, 0, none⟩) n cc) ∧ w'.ownsRow w.heap.size 4 1 (.slice (some ⟨G, 0, none⟩) n cc) n (rl (fun q => Value.bool (nwB a c t k q)) n) ∧ Below w.heap.size w w'
set_option maxRecDepth 100000 in
set_option maxHeartbeats 4000000 in
/-- Where a content is, behind the first k events. -/
theorem xnow_any (a : Es) (v : Ve) (c t : Int) (k n : Nat) (w : World) (h : EL w 0 a v) (hok : Eok a) (hn : a.n = (n : Int)) (hk : k ≤ a.e.length) (ht : ∀ j, j < k → (ag a.e j).t ≤ t) (hvc : a.e.length ≤ v.c) :
    Calls Tryz.prog 71 #[.agg (ge a v), .int .i64 c, .int .i64 (k : Int)] w (NwPost a c t k n w) := by
  obtain ⟨A, vc⟩ := v
  have hvc : a.e.length ≤ vc := hvc
  have hn1 := hok.n1
  have hn16 := hok.n16
  have HEV := Lib.hid hok.e
  have HT := Lib.hid ht
  have hb0 := box_below w (.cells (ge a ⟨A, vc⟩) 28)
  have HB0 := Lib.hid hb0
  have HR0 := Lib.hid (heap_alloc_new w (.cells (ge a ⟨A, vc⟩) 28))
  obtain ⟨c0, c1⟩ := geCells HR0.out
  have HEX := Lib.hid (Row.below h hb0)
  obtain ⟨i0, hi1, hz0, hz1, hz2⟩ := info_parts zinfo4
  have HI := Lib.hid hi1
  have HI0 := Lib.hid hz0
  have HI1 := Lib.hid hz1
  have HI2 := Lib.hid hz2
  have hz : (w.alloc (.cells (ge a ⟨A, vc⟩) 28)).heap.size = w.heap.size + 1 := by simp
  have hnn : a.n = ((n : Nat) : Int) := hn
  have k0 : (0 : Int) ≤ (k : Int) := by omega
  have k1 : (k : Int) ≤ (vc : Int) := by omega
  have hm := hok.m
  have HN0 := Lib.hid (nwB_zero a c t)
  have h0 := h
  clear h hok ht hb0 hi1 hz0 hz1 hz2
  unfold NwPost
  go_enter Tryz.func71, Tryz.ntmps71
  go_wp2_with (at_make; refine wpList_make_full _ rfl _ _ 96 rfl (w.heap.size + 1) 4 i0 (.bool false) 1 Tryz.underlying96 HI.out HI0.out HI1.out .i64 .i64 _ _ n rfl rfl (by first | rfl | exact hn) (by first | rfl | exact hn) (by rw [HI2.out]; omega) (by unfold maxLen; omega) (by rw [hz]; exact Nat.le_refl _) ?_; intro w1 hown hgr; rw [show Value.cells (.bool false) = #[.bool false] from rfl, made_cells] at hown; rw [hz] at hown; have HOWN := Lib.hid hown; have M1 := Lib.hid ((hgr.block w.heap.size (row_lt HR0.out) (by simp)).trans HR0.out); have B1 := Lib.hid (HB0.out.grown hgr HB0.out.size (fun k e => by cases e)); clear c0 c1; obtain ⟨c0, c1⟩ := geCells M1.out; clear hown hgr)
  have HEW := Lib.hid (fun w' (hb : Below w.heap.size w w') => Row.below h0 hb)
  go_loopw [18] (fun ii wr => ∃ j : Nat, j ≤ k ∧ ii = .int .i64 (j : Int) ∧ wr.ownsRow (w.heap.size + 1) 4 1 (.slice (some ⟨w.heap.size + 1, 0, none⟩) n n) n (rl (fun q => Value.bool (nwB a c t j q)) n) ∧ Below w.heap.size w wr) (fun ii _ => k - (intOf ii).toNat)
  case atStart => exact ⟨0, by omega, rfl, by rw [rl_cong (g := fun _ => Value.bool false) (fun q _ => by rw [HN0.out])]; exact HOWN.out, B1.out⟩
  case round =>
    obtain ⟨j, hj, rfl, hown, hbl⟩ := hrel
    have HO := Lib.hid hown
    have HBL := Lib.hid hbl
    clear hown hbl
    by_cases hlt : j < k
    · obtain ⟨b, off, hA, -, hbk, hac⟩ := (HEW.out _ HBL.out).ac (show j < a.e.length by omega)
      have hA : A = some ⟨b, off, none⟩ := hA
      subst hA
      obtain ⟨y0, y1, y2, y3, y4, y5, y6⟩ := hac
      have htj := HT.out j hlt
      obtain ⟨-, -, hp0, hp1, hfit⟩ := HEV.out j (by omega)
      have HPUT := Lib.hid (fun P => nwB_put (a := a) (c := c) (t := t) (k := j) (P := P) htj)
      have HREM := Lib.hid (fun P => nwB_rem (a := a) (c := c) (t := t) (k := j) (P := P) htj)
      have HCPY := Lib.hid (fun P f => nwB_cpy (a := a) (c := c) (t := t) (k := j) (P := P) (f := f) htj)
      have HOTH := Lib.hid (nwB_oth (a := a) (c := c) (t := t) (k := j) htj)
      generalize ag a.e j = x at *
      obtain ⟨xt, xk, xp, xr, xu, xc, xf⟩ := x
      unfold fitP at hfit
      simp only at y0 y1 y2 y3 y4 y5 y6 hp0 hp1 hfit HPUT HREM HCPY HOTH
      obtain ⟨P, rfl⟩ : ∃ P : Nat, xp = P := ⟨xp.toNat, by omega⟩
      have hbx := box_below wr (.cells #[.int .i64 xt, .int .i64 xk, .int .i64 (P : Int), .int .i64 xr, .int .i64 xu, .int .i64 xc, .int .i64 xf] 76)
      have XN := heap_alloc_new wr (.cells #[.int .i64 xt, .int .i64 xk, .int .i64 (P : Int), .int .i64 xr, .int .i64 xu, .int .i64 xc, .int .i64 xf] 76)
      obtain ⟨n0, n1, n2, n3, n4, n5, n6⟩ := accCells (x := ⟨xt, xk, (P : Int), xr, xu, xc, xf⟩) XN
      simp only at n0 n1 n2 n3 n4 n5 n6
      have BX := Lib.hid (HBL.out.trans (hbx.mono HBL.out.size))
      have OX := Lib.hid (own_below HO.out hbx)
      have i0' : (0 : Int) ≤ (j : Int) := by omega
      have i1' : (j : Int) < (k : Int) := by omega
      have hPn : P < n := by omega
      have q0 : (0 : Int) ≤ (P : Int) := by omega
      have q1 : (P : Int) < (n : Int) := by omega
      have hgs : w.heap.size + 1 < (wr.alloc (.cells #[.int .i64 xt, .int .i64 xk, .int .i64 (P : Int), .int .i64 xr, .int .i64 xu, .int .i64 xc, .int .i64 xf] 76)).heap.size := (OX.out.lt _ rfl).2
      have HGS := Lib.hid hgs
      clear hbx XN htj hgs
      have hcl : (wr.alloc (.cells #[.int .i64 xt, .int .i64 xk, .int .i64 (P : Int), .int .i64 xr, .int .i64 xu, .int .i64 xc, .int .i64 xf] 76)).cell? ⟨w.heap.size + 1, P, none⟩ = some (.bool (nwB a c t j P)) := by
        have := (own_put (u := .bool true) OX.out hPn).1
        rw [rl_at _ _ _ hPn] at this
        exact this
      have hfz : (wr.alloc (.cells #[.int .i64 xt, .int .i64 xk, .int .i64 (P : Int), .int .i64 xr, .int .i64 xu, .int .i64 xc, .int .i64 xf] 76)).frozen? ⟨w.heap.size + 1, P, none⟩ = false := (own_put (u := .bool true) OX.out hPn).2.1
      have HPT := Lib.hid (fun (u : Bool) (F : Nat → Bool) (hF : ∀ q, F q = if q = P then u else nwB a c t j q) => (by
        have h1 := (own_put (u := .bool u) OX.out hPn)
        rw [rl_set _ _ _ _ hPn] at h1
        refine ⟨?_, ?_⟩
        · rw [show (fun q => Value.bool (F q)) = (fun q => if q = P then Value.bool u else Value.bool (nwB a c t j q)) from funext fun q => by rw [hF q]; split <;> rfl]
          exact h1.2.2.1
        · exact BX.out.grown h1.2.2.2 BX.out.size (fun g e => by cases e; have := HB0.out.size; omega) :
        ((wr.alloc (.cells #[.int .i64 xt, .int .i64 xk, .int .i64 (P : Int), .int .i64 xr, .int .i64 xu, .int .i64 xc, .int .i64 xf] 76)).setCell ⟨w.heap.size + 1, P, none⟩ (.bool u)).ownsRow (w.heap.size + 1) 4 1 (.slice (some ⟨w.heap.size + 1, 0, none⟩) n n) n (rl (fun q => Value.bool (F q)) n) ∧ Below w.heap.size w ((wr.alloc (.cells #[.int .i64 xt, .int .i64 xk, .int .i64 (P : Int), .int .i64 xr, .int .i64 xu, .int .i64 xc, .int .i64 xf] 76)).setCell ⟨w.heap.size + 1, P, none⟩ (.bool u))))
      by_cases h5 : xk = 5
      · subst h5
        have HF := Lib.hid (HPUT.out P rfl rfl)
        clear HPUT HREM HCPY HOTH
        cases hb : nwB a c t j P with
        | true =>
          rw [hb] at hcl HF
          clear hb hfit
          go_wp2_with fail
          generalize wr.alloc (.cells #[.int .i64 xt, .int .i64 5, .int .i64 (P : Int), .int .i64 xr, .int .i64 xu, .int .i64 xc, .int .i64 xf] 76) = W at *
          go_still_tail 15, (by kernel_rfl)
          change wpList _ _ _ _ _ W.drew
          go_wp2_with fail
          exact ⟨⟨j + 1, by omega, by go_num, (HPT.out true (nwB a c t (j + 1)) (fun q => by rw [HF.out q, Bool.true_or])).1, (HPT.out true (nwB a c t (j + 1)) (fun q => by rw [HF.out q, Bool.true_or])).2.drew⟩, by simp [intOf]; omega⟩
        | false =>
          rw [hb] at hcl HF
          clear hb hfit
          go_wp2_with fail
          generalize wr.alloc (.cells #[.int .i64 xt, .int .i64 5, .int .i64 (P : Int), .int .i64 xr, .int .i64 xu, .int .i64 xc, .int .i64 xf] 76) = W at *
          go_still_tail 15, (by kernel_rfl)
          change wpList _ _ _ _ _ W.drew
          go_wp2_with fail
          exact ⟨⟨j + 1, by omega, by go_num, (HPT.out (xc == c) (nwB a c t (j + 1)) (fun q => by rw [HF.out q, Bool.false_or])).1, (HPT.out (xc == c) (nwB a c t (j + 1)) (fun q => by rw [HF.out q, Bool.false_or])).2.drew⟩, by simp [intOf]; omega⟩
      · by_cases h6 : xk = 6
        · subst h6
          have HF := Lib.hid (HREM.out P rfl rfl)
          clear HPUT HREM HCPY HOTH
          cases hb : nwB a c t j P with
          | true =>
            rw [hb] at hcl HF
            clear hb hfit
            go_wp2_with fail
            generalize wr.alloc (.cells #[.int .i64 xt, .int .i64 6, .int .i64 (P : Int), .int .i64 xr, .int .i64 xu, .int .i64 xc, .int .i64 xf] 76) = W at *
            go_still_tail 15, (by kernel_rfl)
            change wpList _ _ _ _ _ W.drew
            go_wp2_with fail
            exact ⟨⟨j + 1, by omega, by go_num, (HPT.out (xc != c) (nwB a c t (j + 1)) (fun q => by rw [HF.out q, Bool.true_and])).1, (HPT.out (xc != c) (nwB a c t (j + 1)) (fun q => by rw [HF.out q, Bool.true_and])).2.drew⟩, by simp [intOf]; omega⟩
          | false =>
            rw [hb] at hcl HF
            clear hb hfit
            go_wp2_with fail
            generalize wr.alloc (.cells #[.int .i64 xt, .int .i64 6, .int .i64 (P : Int), .int .i64 xr, .int .i64 xu, .int .i64 xc, .int .i64 xf] 76) = W at *
            go_still_tail 15, (by kernel_rfl)
            change wpList _ _ _ _ _ W.drew
            go_wp2_with fail
            exact ⟨⟨j + 1, by omega, by go_num, (HPT.out false (nwB a c t (j + 1)) (fun q => by rw [HF.out q, Bool.false_and])).1, (HPT.out false (nwB a c t (j + 1)) (fun q => by rw [HF.out q, Bool.false_and])).2.drew⟩, by simp [intOf]; omega⟩
        · by_cases h7 : xk = 7
          · subst h7
            obtain ⟨f, rfl⟩ : ∃ f : Nat, xf = f := ⟨xf.toNat, by omega⟩
            have hfn : f < n := by omega
            have f0 : (0 : Int) ≤ (f : Int) := by omega
            have f1 : (f : Int) < (n : Int) := by omega
            have HF := Lib.hid (HCPY.out P f rfl rfl rfl)
            have hcf : (wr.alloc (.cells #[.int .i64 xt, .int .i64 7, .int .i64 (P : Int), .int .i64 xr, .int .i64 xu, .int .i64 xc, .int .i64 (f : Int)] 76)).cell? ⟨w.heap.size + 1, f, none⟩ = some (.bool (nwB a c t j f)) := by
              have := (own_put (u := .bool true) OX.out hfn).1
              rw [rl_at _ _ _ hfn] at this
              exact this
            clear HPUT HREM HCPY HOTH
            cases hb : nwB a c t j P with
            | true =>
              rw [hb] at hcl HF
              clear hb hfit
              go_wp2_with fail
              generalize wr.alloc (.cells #[.int .i64 xt, .int .i64 7, .int .i64 (P : Int), .int .i64 xr, .int .i64 xu, .int .i64 xc, .int .i64 (f : Int)] 76) = W at *
              go_still_tail 16, (by kernel_rfl)
              change wpList _ _ _ _ _ W.drew
              go_wp2_with fail
              exact ⟨⟨j + 1, by omega, by go_num, (HPT.out true (nwB a c t (j + 1)) (fun q => by rw [HF.out q, Bool.true_or])).1, (HPT.out true (nwB a c t (j + 1)) (fun q => by rw [HF.out q, Bool.true_or])).2.drew⟩, by simp [intOf]; omega⟩
            | false =>
              rw [hb] at hcl HF
              clear hb hfit
              generalize hbf : nwB a c t j f = bf at *
              go_wp2_with fail
              generalize wr.alloc (.cells #[.int .i64 xt, .int .i64 7, .int .i64 (P : Int), .int .i64 xr, .int .i64 xu, .int .i64 xc, .int .i64 (f : Int)] 76) = W at *
              go_still_tail 16, (by kernel_rfl)
              change wpList _ _ _ _ _ W.drew
              go_wp2_with fail
              exact ⟨⟨j + 1, by omega, by go_num, (HPT.out bf (nwB a c t (j + 1)) (fun q => by rw [HF.out q, Bool.false_or])).1, (HPT.out bf (nwB a c t (j + 1)) (fun q => by rw [HF.out q, Bool.false_or])).2.drew⟩, by simp [intOf]; omega⟩
          · have HF := Lib.hid (HOTH.out h5 h6 h7)
            have e5 : (xk == 5) = false := beq_eq_false_iff_ne.2 h5
            have e6 : (xk == 6) = false := beq_eq_false_iff_ne.2 h6
            have e7 : (xk == 7) = false := beq_eq_false_iff_ne.2 h7
            clear HPUT HREM HCPY HOTH hfit h5 h6 h7 hcl hfz
            go_wp2_with fail
            exact ⟨⟨j + 1, by omega, by go_num, by rw [rl_cong (g := fun q => Value.bool (nwB a c t j q)) (fun q _ => by rw [HF.out q])]; exact OX.out, BX.out⟩, by simp [intOf]; omega⟩
    · obtain rfl : j = k := by omega
      go_wp2_with fail
      go_ret
      exact ⟨_, _, rfl, own_base HO.out (by omega), HBL.out⟩

end Go.Proofs.YtgknfkmojhganaaGreat.Di

namespace Go.Proofs.YtgknfkmojhganaaGreat.Di
open Go.RowKit
open Go.Proofs.YtgknfkmojhganaaGreat.Tp
set_option linter.unusedVariables false
set_option linter.unusedSimpArgs false

set_option maxRecDepth 100000 in
set_option maxHeartbeats 4000000 in
/-- The contents of a place, at a time at which all has happened. -/
theorem xholds_any (a : Es) (v : Ve) (P n : Nat) (t : Int) (w : World) (h : EL w 0 a v) (hok : Eok a) (hn : a.n = (n : Int)) (hP : P < n) (ht : ∀ j, j < a.e.length → (ag a.e j).t ≤ t) (hvc : a.e.length ≤ v.c) :
    Calls Tryz.prog 36 #[.agg (ge a v), .int .i64 (P : Int), .int .i64 t] w (SmPost (fun c => wB a (c : Int) t P) 64 w) := by
  have hm := hok.m
  have hb0 := box_below w (.cells (ge a v) 28)
  have HB0 := Lib.hid hb0
  have HR0 := Lib.hid (heap_alloc_new w (.cells (ge a v) 28))
  obtain ⟨c0, c1⟩ := geCells HR0.out
  have HPL := Lib.hid (fun w' (hb : Below w.heap.size w w') => place_yes a v (P : Int) w' (vay_of (Row.below h hb) hok) ⟨hok.n1, hok.n16⟩ ⟨by omega, by omega⟩)
  have hha := fun w' (hb : Below w.heap.size w w') => happened_all a v t w' (Row.below h hb) hm ht
  have hnw := fun (c : Nat) w' (hb : Below w.heap.size w w') => xnow_any a v (c : Int) t a.e.length n w' (Row.below h hb) hok hn (Nat.le_refl _) ht hvc
  unfold NwPost at hnw
  obtain ⟨q, hqq⟩ : ∃ q : Nat → Bool, (fun c : Nat => wB a (c : Int) t P) = q := ⟨_, rfl⟩
  rw [hqq]
  have HNQ := Lib.hid (fun c : Nat => (show nwB a (c : Int) t a.e.length P = q c by rw [← hqq]; rfl))
  simp only [ge] at hha hnw
  have HHA := Lib.hid hha
  have HNW := Lib.hid hnw
  have HF := Lib.hid (show (#[.int .i64 a.n, .slice v.A a.e.length v.c] : Array Value) = ge a v from rfl)
  obtain ⟨j0, hj1, hy0, hy1, hy2⟩ := info_parts zinfo3
  have HJ := Lib.hid hj1
  have HJ0 := Lib.hid hy0
  have HJ1 := Lib.hid hy1
  have HJ2 := Lib.hid hy2
  have P0 : (0 : Int) ≤ (P : Int) := by omega
  have P1 : (P : Int) < (n : Int) := by omega
  clear h hok hn ht hvc hb0 hha hnw hqq hj1 hy0 hy1 hy2
  go_enter Tryz.func36, Tryz.ntmps36
  go_wp2_with (go_at_call 42; rw [HF.out]; refine (HPL.out _ HB0.out).mono ?_; rintro e w1 ⟨rfl, hb1⟩; have B1 := Lib.hid (HB0.out.trans (hb1.mono HB0.out.size)); have M1 := Lib.hid ((hb1.block _ (row_lt HR0.out)).trans HR0.out); clear hb1 c0 c1)
  go_loopw [7, 8] (fun ov cv wr => ∃ (k : Nat) (A' : Option Addr) (c' : Nat), k ≤ 64 ∧ ov = .slice A' (cnt q k) c' ∧ cv = .int .i64 (k : Int) ∧ wr.ownsRow w1.heap.size 3 1 (.slice A' (cnt q k) c') (cnt q k) (iv (idx q k)) ∧ Below w1.heap.size w1 wr) (fun _ cv _ => 64 - (intOf cv).toNat)
  case atStart => exact ⟨0, none, 0, by omega, rfl, rfl, own_nil _ _ _ _, Below.refl _ _⟩
  case round =>
    obtain ⟨k, A', c', hk, rfl, rfl, hown, hbl⟩ := hrel
    have HOW := Lib.hid hown
    have HBL := Lib.hid hbl
    have hcn := cnt_le q k
    clear hown hbl
    by_cases hlt : k < 64
    · have d1 : decide ((k : Int) ≤ 63) = true := decide_eq_true (by omega)
      have hkp : ∀ w', Below wr.heap.size wr w' → w'.cell? ⟨w.heap.size, 0, none⟩ = some (.int .i64 a.n) ∧ w'.cell? ⟨w.heap.size, 1, none⟩ = some (.slice v.A a.e.length v.c) ∧ Below wr.heap.size wr w' := fun w' hb =>
        have a1 := geCells (((HBL.out.trans (hb.mono HBL.out.size)).block _ (row_lt M1.out)).trans M1.out)
        ⟨a1.1, a1.2, hb⟩
      have HKP := Lib.hid hkp
      have HBW := Lib.hid (fun w' (hb : Below wr.heap.size wr w') => B1.out.trans ((HBL.out.trans (hb.mono HBL.out.size)).mono B1.out.size))
      have HNK := Lib.hid (HNW.out k)
      have HQK := Lib.hid (HNQ.out k)
      have bz1 : Below wr.heap.size wr wr.drew := (Below.refl wr.heap.size wr).drew
      clear hkp
      go_upto_region 7 with fail
      go_cut [25] from 17 to 25 (fun s wx => s = .bool (q k) ∧ Below wr.heap.size wr wx)
      case first =>
        obtain ⟨u0, u1, -⟩ := HKP.out _ (Below.refl _ _)
        go_region_with (first
          | (go_at_call 72; refine (HHA.out _ (HBW.out _ (by first | exact Below.refl _ _ | exact bz1))).mono ?_; rintro e wa1 ⟨rfl, hbb⟩; have BA := Lib.hid (show Below wr.heap.size wr wa1 from (by first | exact hbb | exact bz1.trans (hbb.mono (Nat.le_refl _)))); clear hbb; obtain ⟨u0, u1, -⟩ := HKP.out _ BA.out)
          | (go_at_call 71; refine (HNK.out _ (HBW.out _ (by first | exact BA.out | exact BA.out.drew))).mono ?_; rintro e wa2 ⟨G, cc, rfl, hown2, hbb⟩; have BB := Lib.hid (show Below wr.heap.size wr wa2 from (by first | exact BA.out.trans (hbb.mono BA.out.size) | exact BA.out.drew.trans (hbb.mono BA.out.size))); have hcl := (own_put (u := .bool true) hown2 hP).1; rw [rl_at _ _ _ hP, HQK.out] at hcl; clear hbb hown2))
        all_goals
          go_wp2_with fail
          go_meet
          case rel => exact ⟨rfl, by first | exact BB.out | exact BB.out.drew⟩
      case rest =>
      obtain ⟨rfl, hbw⟩ := hcut
      rename World => W3
      have B3 := Lib.hid (HBL.out.trans (hbw.mono HBL.out.size))
      have O3 := Lib.hid (own_below HOW.out hbw)
      have hs3 := B3.out.size
      clear hbw bz1
      cases hqk : q k with
      | true =>
        have HI := Lib.hid (idx_tt hqk)
        have HC := Lib.hid (cnt_tt hqk)
        have HSV := Lib.hid (iv_snoc (idx q k) k)
        clear hqk
        go_wp2_with (at_builtin; refine wpList_append_own _ rfl (.tmp 26) (.tmp 28) 22 rfl w1.heap.size 3 j0 (.int .i64 0) 1 8 Tryz.underlying22 HJ.out HJ0.out HJ1.out HJ2.out rfl (by decide) _ (cnt q k) (iv (idx q k)) rfl (O3.out.alloc _) ⟨W3.heap.size, 0, none⟩ 1 1 [.int .i64 (k : Int)] rfl rfl (World.news_of_block (heap_alloc_new W3 _)) (by simp [Value.oneCell']) (by unfold maxLen; omega) (by omega) (by simp; omega) ?_; intro v' w6 hown6 hgr _; obtain ⟨A6, c6, rfl⟩ := own_form hown6; have O6 := Lib.hid hown6; have B6 := Lib.hid ((B3.out.trans ((box_below _ _).mono B3.out.size)).grown hgr (by simp; omega) (fun g e => (O3.out.lt g e).1)); clear hown6 hgr)
        exact ⟨⟨k + 1, A6, c6, by omega, by rw [HC.out], by go_num, by rw [HC.out, HI.out, HSV.out]; exact O6.out, B6.out⟩, by simp [intOf]; omega⟩
      | false =>
        have HI := Lib.hid (idx_ff hqk)
        have HC := Lib.hid (cnt_ff hqk)
        clear hqk
        go_wp2_with fail
        exact ⟨⟨k + 1, A', c', by omega, by rw [HC.out], by go_num, by rw [HC.out, HI.out]; exact O3.out, B3.out⟩, by simp [intOf]; omega⟩
    · obtain rfl : k = 64 := by omega
      have d1 : decide (((64 : Nat) : Int) ≤ 63) = false := by decide
      go_wp2_with fail
      go_ret
      exact ⟨A', c', rfl, own_base HOW.out (by have := B1.out.size; omega), B1.out.trans (HBL.out.mono B1.out.size)⟩

end Go.Proofs.YtgknfkmojhganaaGreat.Di

namespace Go.Proofs.YtgknfkmojhganaaGreat.Di
set_option linter.unusedVariables false

theorem wB_to {a : Es} {lt c : Int} {f o : Nat} (h : wB a c lt f = true) : wB ⟨a.n, a.e ++ [⟨lt, 7, (o : Int), 0, 0, 0, (f : Int)⟩]⟩ c lt o = true := by
  unfold wB at h ⊢
  show (!(wyA (a.e ++ [⟨lt, 7, (o : Int), 0, 0, 0, (f : Int)⟩]) c lt (o : Int)).isEmpty) = true
  rw [emp_iff] at h ⊢
  rw [wyA_snoc, if_neg (show ¬ lt < lt by omega)]
  show wst a.e.length ⟨lt, 7, (o : Int), 0, 0, 0, (f : Int)⟩ c (wyA a.e c lt) (o : Int) ≠ []
  unfold wst
  rw [if_neg (show ¬ (7 : Int) = 5 by decide), if_neg (show ¬ (7 : Int) = 6 by decide), if_pos rfl]
  by_cases h1 : wyA a.e c lt (o : Int) = []
  · rw [if_pos ⟨rfl, h, h1⟩]
    simp
  · rw [if_neg (fun h2 => h1 h2.2.2)]
    exact h1
theorem copy_is {d : Dy} {a : Es} {lt f o n p : Nat} {c : Int} (hn : o < n) (h : wB a c (lt : Int) f = true) (hm : mayB d ⟨a.n, a.e ++ [⟨(lt : Int), 7, (o : Int), 0, 0, 0, (f : Int)⟩]⟩ p o lt = true) :
    xwB d ⟨a.n, a.e ++ [⟨(lt : Int), 7, (o : Int), 0, 0, 0, (f : Int)⟩]⟩ n c (p : Int) lt = true ∧ ∃ T, siF d ⟨a.n, a.e ++ [⟨(lt : Int), 7, (o : Int), 0, 0, 0, (f : Int)⟩]⟩ n c (p : Int) = some T ∧ T ≤ lt := by
  have hx : xwB d ⟨a.n, a.e ++ [⟨(lt : Int), 7, (o : Int), 0, 0, 0, (f : Int)⟩]⟩ n c (p : Int) lt = true := by
    unfold xwB
    rw [any_iff]
    refine ⟨o, hn, ?_⟩
    rw [Bool.and_eq_true]
    refine ⟨wB_to h, ?_⟩
    unfold xB
    rw [if_neg (by omega)]
    exact hm
  obtain ⟨T, h1, h2⟩ := leM_ex lt (.inl ⟨a.e.length, by simp, by show (ag (a.e ++ [_]) a.e.length).t = _; rw [ag_end]⟩) hx
  exact ⟨hx, T, siF_yes h1, h2⟩

end Go.Proofs.YtgknfkmojhganaaGreat.Di

namespace Go.Proofs.YtgknfkmojhganaaGreat.Di
set_option linter.unusedVariables false
set_option linter.unusedSimpArgs false

/-! Without what happens later. -/
theorem dm_cutG {d : Dy} {m t : Nat} (hm : m ≤ d.e.length) (h : ∀ j, m ≤ j → j < d.e.length → t < (eg d j).t) : dm (cutD d m) t = dm d t := by
  funext p q
  unfold dm
  have hl : (cutD d m).e.length = m := by show (d.e.take m).length = m; rw [List.length_take]; omega
  rw [hl, dmk_cut t p q m (Nat.le_refl _)]
  obtain ⟨i, hi⟩ : ∃ i, d.e.length = m + i := ⟨d.e.length - m, by omega⟩
  rw [hi, dmk_skip t p q m i (fun j h1 h2 => h j h1 (by omega))]
theorem upB_cutG {d : Dy} {m t : Nat} (hm : m ≤ d.e.length) (h : ∀ j, m ≤ j → j < d.e.length → t < (eg d j).t) : upB (cutD d m) t = upB d t := by
  funext p q
  have e : Rc (cutD d m) t p q ↔ Rc d t p q := by
    show Reach (dm (cutD d m) t) d.k.length p q ↔ Reach (dm d t) d.k.length p q
    rw [dm_cutG hm h]
  exact Bool.eq_iff_iff.2 (by rw [upB_iff, upB_iff, e]; rfl)
theorem lk_cutG {a : Es} {t : Int} {m : Nat} (hm : m ≤ a.e.length) (h : ∀ j, m ≤ j → j < a.e.length → t < (ag a.e j).t) (p : Int) : lkA (a.e.take m) p t = lkA a.e p t := by
  unfold lkA
  rw [List.length_take, Nat.min_eq_left hm, lk_same p t m (fun j hj => ag_take hj)]
  obtain ⟨d, hd⟩ : ∃ d, a.e.length = m + d := ⟨a.e.length - m, by omega⟩
  rw [hd, lk_skip]
  intro j h1 h2
  exact h j h1 (by omega)
theorem gr_cutG {a : Es} {t : Int} {m : Nat} (hm : m ≤ a.e.length) (h : ∀ j, m ≤ j → j < a.e.length → t < (ag a.e j).t) (p r : Int) : grA (a.e.take m) p t r = grA a.e p t r := by
  unfold grA
  rw [List.length_take, Nat.min_eq_left hm, gr_same p t r m (fun j hj => ag_take hj)]
  obtain ⟨d, hd⟩ : ∃ d, a.e.length = m + d := ⟨a.e.length - m, by omega⟩
  rw [hd, gr_skip]
  intro j h1 h2
  exact h j h1 (by omega)
theorem wy_cutG {a : Es} {t : Int} {m : Nat} (hm : m ≤ a.e.length) (h : ∀ j, m ≤ j → j < a.e.length → t < (ag a.e j).t) (c q : Int) : wyA (a.e.take m) c t q = wyA a.e c t q := by
  unfold wyA
  rw [List.length_take, Nat.min_eq_left hm, wy_same c t m (fun j hj => ag_take hj)]
  obtain ⟨d, hd⟩ : ∃ d, a.e.length = m + d := ⟨a.e.length - m, by omega⟩
  rw [hd, wy_skip]
  intro j h1 h2
  exact h j h1 (by omega)
/-- What is cut off lies later than a time. -/
structure Late (d : Dy) (a : Es) (m1 m2 t : Nat) : Prop where
  l1 : m1 ≤ d.e.length
  l2 : m2 ≤ a.e.length
  h1 : ∀ j, j < d.e.length → ((eg d j).t ≤ t ↔ j < m1)
  h2 : ∀ j, j < a.e.length → ((ag a.e j).t ≤ (t : Int) ↔ j < m2)
theorem Late.g1 {d : Dy} {a : Es} {m1 m2 t r : Nat} (h : Late d a m1 m2 t) (hr : r ≤ t) : ∀ j, m1 ≤ j → j < d.e.length → r < (eg d j).t := fun j h1 h2 => by
  have := (h.h1 j h2).1
  omega
theorem Late.g2 {d : Dy} {a : Es} {m1 m2 t r : Nat} (h : Late d a m1 m2 t) (hr : r ≤ t) : ∀ j, m2 ≤ j → j < a.e.length → (r : Int) < (ag a.e j).t := fun j h1 h2 => by
  have := (h.h2 j h2).1
  omega
theorem may_cutG {d : Dy} {a : Es} (ha : Eok a) {p P t r m1 m2 : Nat} (hP : (P : Int) < a.n) (h : Late d a m1 m2 t) (hr : r ≤ t) :
    mayB (cutD d m1) ⟨a.n, a.e.take m2⟩ p P r = mayB d a p P r := by
  unfold mayB
  have e1 : lkA (a.e.take m2) (P : Int) (r : Int) = lkA a.e (P : Int) (r : Int) := lk_cutG h.l2 (h.g2 hr) _
  have e2 : gdB ⟨a.n, a.e.take m2⟩ (P : Int) (r : Int) = gdB a (P : Int) (r : Int) := funext fun q => by
    rw [gdB_yes ⟨ha.take m2, by omega, hP⟩, gdB_yes ⟨ha, by omega, hP⟩]
    show (grA (a.e.take m2) _ _ _).isSome = _
    rw [gr_cutG h.l2 (h.g2 hr)]
  show (rB d p && ((lkA (a.e.take m2) (P : Int) (r : Int)).isSome || anyB (keyB (cutD d m1) ⟨a.n, a.e.take m2⟩ p P r) d.k.length)) = _
  rw [e1]
  congr 2
  refine any_congr _ fun q _ => ?_
  unfold keyB
  rw [upB_cutG h.l1 (h.g1 hr), e2]
theorem xB_cut {d : Dy} {a : Es} (ha : Eok a) {p : Int} {P t r m1 m2 : Nat} (hP : (P : Int) < a.n) (h : Late d a m1 m2 t) (hr : r ≤ t) :
    xB (cutD d m1) ⟨a.n, a.e.take m2⟩ p P r = xB d a p P r := by
  unfold xB
  split
  · show (lkA (a.e.take m2) _ _).isSome = _
    rw [lk_cutG h.l2 (h.g2 hr)]
  · exact may_cutG ha hP h hr
theorem xwB_cut {d : Dy} {a : Es} (ha : Eok a) {n : Nat} (hn : a.n = (n : Int)) {c p : Int} {t r m1 m2 : Nat} (h : Late d a m1 m2 t) (hr : r ≤ t) :
    xwB (cutD d m1) ⟨a.n, a.e.take m2⟩ n c p r = xwB d a n c p r := by
  unfold xwB
  refine any_congr _ fun P hP => ?_
  rw [xB_cut ha (by omega) h hr]
  congr 1
  unfold wB
  show (!(wyA (a.e.take m2) _ _ _).isEmpty) = _
  rw [wy_cutG h.l2 (h.g2 hr)]
theorem tiM_cut {d : Dy} {a : Es} {t r m1 m2 : Nat} (h : Late d a m1 m2 t) : TiM (cutD d m1) ⟨a.n, a.e.take m2⟩ r ↔ TiM d a r ∧ r ≤ t := by
  have hl1 : (cutD d m1).e.length = m1 := by show (d.e.take m1).length = m1; rw [List.length_take]; have := h.l1; omega
  have hl2 : (a.e.take m2).length = m2 := by rw [List.length_take]; have := h.l2; omega
  have k1 := h.l1
  have k2 := h.l2
  constructor
  · rintro (⟨j, hj, e⟩ | ⟨j, hj, e⟩)
    · have hj : j < (a.e.take m2).length := hj
      have e : (ag (a.e.take m2) j).t = (r : Int) := e
      rw [hl2] at hj
      rw [ag_take hj] at e
      have := (h.h2 j (by omega)).2 hj
      exact ⟨.inl ⟨j, by omega, e⟩, by omega⟩
    · rw [hl1] at hj
      rw [eg_take hj] at e
      have := (h.h1 j (by omega)).2 hj
      exact ⟨.inr ⟨j, by omega, e⟩, by omega⟩
  · rintro ⟨⟨j, hj, e⟩ | ⟨j, hj, e⟩, hr⟩
    · have hm := (h.h2 j hj).1 (by omega)
      exact .inl ⟨j, by show j < (a.e.take m2).length; omega, by show (ag (a.e.take m2) j).t = _; rw [ag_take hm]; exact e⟩
    · have hm := (h.h1 j hj).1 (by omega)
      exact .inr ⟨j, by rw [hl1]; exact hm, by rw [eg_take hm]; exact e⟩
/-- The first times, of those that are not later. -/
theorem siF_cut {d : Dy} {a : Es} (ha : Eok a) {n : Nat} (hn : a.n = (n : Int)) {c p : Int} {t m1 m2 : Nat} (h : Late d a m1 m2 t) :
    siF (cutD d m1) ⟨a.n, a.e.take m2⟩ n c p = match siF d a n c p with | some T => if T ≤ t then some T else none | none => none := by
  cases e : siF d a n c p with
  | none =>
    refine siF_no fun r hr => ?_
    obtain ⟨h1, h2⟩ := (tiM_cut h).1 hr
    rw [xwB_cut ha hn h h2]
    exact siF_none e r h1
  | some T =>
    obtain ⟨h1, h2, h3⟩ := siF_is e
    by_cases hT : T ≤ t
    · show _ = if T ≤ t then some T else none
      rw [if_pos hT]
      refine siF_yes ⟨(tiM_cut h).2 ⟨h1, hT⟩, by rw [xwB_cut ha hn h hT]; exact h2, fun r hr hx => ?_⟩
      obtain ⟨h4, h5⟩ := (tiM_cut h).1 hr
      rw [xwB_cut ha hn h h5] at hx
      exact h3 r h4 hx
    · show _ = if T ≤ t then some T else none
      rw [if_neg hT]
      refine siF_no fun r hr => ?_
      obtain ⟨h4, h5⟩ := (tiM_cut h).1 hr
      rw [xwB_cut ha hn h h5, ← Bool.not_eq_true]
      intro hx
      have := h3 r h4 hx
      omega
theorem exL_cut {d : Dy} {a : Es} (ha : Eok a) {n : Nat} (hn : a.n = (n : Int)) {c : Int} {t m1 m2 : Nat} (h : Late d a m1 m2 t) :
    ∀ k, exL (cutD d m1) ⟨a.n, a.e.take m2⟩ n c k = (exL d a n c k).filter fun x => decide (x.2 ≤ t)
  | 0 => rfl
  | k + 1 => by
    have ih := exL_cut ha hn (c := c) h k
    have hs := siF_cut ha hn (c := c) (p := (k : Int) - 1) h
    cases e : siF d a n c ((k : Int) - 1) with
    | none =>
      rw [e] at hs
      rw [exL_none hs, exL_none e, ih]
    | some T =>
      rw [e] at hs
      by_cases hT : T ≤ t
      · rw [exL_some (hs.trans (if_pos hT)), exL_some e, List.filter_append, ih]
        congr 1
        simp [hT]
      · rw [exL_none (hs.trans (if_neg hT)), exL_some e, List.filter_append, ih]
        simp [hT]
/-- Is a content put, among the first k events? -/
def putB (a : Es) (c : Int) (k : Nat) : Bool := anyB (fun j => decide ((ag a.e j).k = 5) && decide ((ag a.e j).c = c)) k
theorem wy_noput {a : Es} {c t : Int} (h : putB a c a.e.length = false) : ∀ k, k ≤ a.e.length → ∀ q, wy a.e c t k q = []
  | 0, _, _ => rfl
  | k + 1, hk, q => by
    have ih := wy_noput (t := t) h k (by omega)
    rw [wy]
    split
    · exact ih q
    · have hp : ¬ ((ag a.e k).k = 5 ∧ (ag a.e k).c = c) := fun ⟨h1, h2⟩ => by
        have : putB a c a.e.length = true := (any_iff _ _).2 ⟨k, by omega, by rw [h1, h2]; simp⟩
        rw [h] at this
        cases this
      unfold wst
      split
      · rename_i h5
        rw [if_neg (fun h6 => hp ⟨h5, h6.1⟩)]
        exact ih q
      · split
        · split
          · rfl
          · exact ih q
        · split
          · rw [if_neg (fun h6 => h6.2.1 (ih _))]
            exact ih q
          · exact ih q
theorem exL_noput {d : Dy} {a : Es} {n : Nat} {c : Int} (h : putB a c a.e.length = false) : ∀ k, exL d a n c k = []
  | 0 => rfl
  | k + 1 => by
    have hs : siF d a n c ((k : Int) - 1) = none := siF_no fun r _ => by
      rw [← Bool.not_eq_true]
      unfold xwB
      rw [any_iff]
      rintro ⟨P, _, hx⟩
      rw [Bool.and_eq_true] at hx
      have h1 := hx.1
      unfold wB wyA at h1
      rw [wy_noput h _ (Nat.le_refl _)] at h1
      cases h1
    rw [exL_none hs]
    exact exL_noput h k

end Go.Proofs.YtgknfkmojhganaaGreat.Di

namespace Go.Proofs.YtgknfkmojhganaaGreat.Di
open Go.RowKit
open Go.Proofs.YtgknfkmojhganaaGreat.Tp
set_option linter.unusedVariables false
set_option linter.unusedSimpArgs false

set_option maxRecDepth 100000 in
set_option maxHeartbeats 1000000 in
/-- The order of exposures by time. -/
theorem c77_any (p q : Int) (S T : Nat) (w : World) (hS : S ≤ 1099511627776) (hT : T ≤ 1099511627776) :
    Calls Tryz.prog 77 #[.agg #[.int .i64 p, .int .i64 (S : Int)], .agg #[.int .i64 q, .int .i64 (T : Int)]] w fun e w' => e = .returned (.int .i64 ((S : Int) - (T : Int))) ∧ Below w.heap.size w w' := by
  have hbx := (box_below w (.cells #[.int .i64 p, .int .i64 (S : Int)] 70)).trans ((box_below (w.alloc (.cells #[.int .i64 p, .int .i64 (S : Int)] 70)) (.cells #[.int .i64 q, .int .i64 (T : Int)] 70)).mono (by simp))
  have HBX := Lib.hid hbx
  have D1 := heap_alloc2_old w (.cells #[.int .i64 p, .int .i64 (S : Int)] 70) (.cells #[.int .i64 q, .int .i64 (T : Int)] 70)
  have E1 := heap_alloc2_new w (.cells #[.int .i64 p, .int .i64 (S : Int)] 70) (.cells #[.int .i64 q, .int .i64 (T : Int)] 70)
  have d1 : ((w.alloc (.cells #[.int .i64 p, .int .i64 (S : Int)] 70)).alloc (.cells #[.int .i64 q, .int .i64 (T : Int)] 70)).cell? ⟨w.heap.size, 1, none⟩ = some (.int .i64 (S : Int)) := by rw [cell_of_row _ _ _ _ _ _ D1]; rfl
  have e1 : ((w.alloc (.cells #[.int .i64 p, .int .i64 (S : Int)] 70)).alloc (.cells #[.int .i64 q, .int .i64 (T : Int)] 70)).cell? ⟨w.heap.size + 1, 1, none⟩ = some (.int .i64 (T : Int)) := by rw [cell_of_row _ _ _ _ _ _ E1]; rfl
  have hw : IntKind.i64.wrap ((S : Int) - (T : Int)) = (S : Int) - (T : Int) := IntWalk.i64_in _ (by omega)
  clear hbx D1 E1
  go_enter Tryz.func77, Tryz.ntmps77
  go_wp2_with fail
  go_ret
  exact ⟨by first | rfl | simp, HBX.out⟩
theorem xc2 {W : World} {g : Nat} {p : Int} {T : Nat} (h : W.heap[g]? = some (.cells #[.int .i64 p, .int .i64 (T : Int)] 70 (0, 0))) : W.cell? ⟨g, 0, none⟩ = some (.int .i64 p) ∧ W.cell? ⟨g, 1, none⟩ = some (.int .i64 (T : Int)) := by
  refine ⟨?_, ?_⟩ <;> rw [cell_of_row _ _ _ _ _ _ h] <;> rfl
theorem info70 (p : Int) (T : Nat) : (Tryz.prog.info? 70).map (·.size) = some (#[Value.int .i64 p, Value.int .i64 (T : Int)] : Array Value).size := by
  have h : (Tryz.prog.info? 70).map (·.size) = some 2 := by kernel_rfl
  exact h
set_option maxRecDepth 100000 in
set_option maxHeartbeats 4000000 in
/-- The least exposure. -/
theorem xmin_any (X : Option Addr) (n c : Nat) (F : List (Int × Nat)) (w : World) (h : Row w 0 2 X n (xv F)) (h1 : 1 ≤ n) (hn : n ≤ 1000) (hT : ∀ j, j < n → (xg F j).2 ≤ 1099511627776) :
    Calls Tryz.prog 76 #[.slice X n c, .func (.func 77) #[] #[]] w fun e w' => ∃ j, j < n ∧ e = .returned (.agg #[.int .i64 (xg F j).1, .int .i64 ((xg F j).2 : Int)]) ∧ (∀ i, i < n → (xg F j).2 ≤ (xg F i).2) ∧ Below w.heap.size w w' := by
  have hb1 := box_below w (.cells #[.int .i64 0, .int .i64 0] 70)
  have hs1 : (w.alloc (.cells #[.int .i64 0, .int .i64 0] 70)).heap.size = w.heap.size + 1 := by simp
  obtain ⟨b, off, hA, y0, y1⟩ := (h.below hb1).xp (i := 0) (by omega)
  subst hA
  rw [Nat.zero_mul, Nat.add_zero] at y0 y1
  have hb2 := hb1.trans ((box_below _ (.cells #[.int .i64 (xg F 0).1, .int .i64 ((xg F 0).2 : Int)] 70)).mono hb1.size)
  have HB2 := Lib.hid hb2
  have r0 := (heap_alloc_old _ (.cells #[.int .i64 (xg F 0).1, .int .i64 ((xg F 0).2 : Int)] 70) (by rw [hs1]; omega)).trans (heap_alloc_new w (.cells #[.int .i64 0, .int .i64 0] 70))
  have r1 := heap_alloc_new (w.alloc (.cells #[.int .i64 0, .int .i64 0] 70)) (.cells #[.int .i64 (xg F 0).1, .int .i64 ((xg F 0).2 : Int)] 70)
  rw [hs1] at r1
  have R0 := Lib.hid r0
  have R1 := Lib.hid r1
  have HR := Lib.hid h
  have HT := Lib.hid hT
  have dn : decide ((n : Int) < 1) = false := decide_eq_false (by omega)
  have n0' : (0 : Int) < (n : Int) := by omega
  clear h hT hb1 hb2 r0 r1 hs1
  go_enter Tryz.func76, Tryz.ntmps76
  go_wp2_with fail
  obtain ⟨W2, hW2⟩ : ∃ W2, (w.alloc (.cells #[.int .i64 0, .int .i64 0] 70)).alloc (.cells #[.int .i64 (xg F 0).1, .int .i64 ((xg F 0).2 : Int)] 70) = W2 := ⟨_, rfl⟩
  rw [hW2] at HB2 R0 R1 ⊢
  clear y0 y1 hW2
  go_loopw [6] (fun iv wr => ∃ i m : Nat, 1 ≤ i ∧ i ≤ n ∧ m < i ∧ iv = .int .i64 (i : Int) ∧ wr.heap[w.heap.size + 1]? = some (.cells #[.int .i64 (xg F m).1, .int .i64 ((xg F m).2 : Int)] 70 (0, 0)) ∧ wr.heap[w.heap.size]? = some (.cells #[.int .i64 0, .int .i64 0] 70 (0, 0)) ∧ (∀ j, j < i → (xg F m).2 ≤ (xg F j).2) ∧ Below w.heap.size w wr) (fun iv _ => n - (intOf iv).toNat)
  case atStart => exact ⟨1, 0, by omega, by omega, by omega, rfl, R1.out, R0.out, fun j hj => (show j = 0 by omega) ▸ Nat.le_refl _, HB2.out⟩
  case round =>
    obtain ⟨i, m, hi1, hi, hm, rfl, hr1, hr0, hmin, hbl⟩ := hrel
    have HR1 := Lib.hid hr1
    have HR0 := Lib.hid hr0
    have HMIN := Lib.hid hmin
    have HBL := Lib.hid hbl
    obtain ⟨m0, m1⟩ := xc2 hr1
    have hTm := HT.out m (by omega)
    clear hr1 hr0 hmin hbl
    by_cases hlt : i < n
    · obtain ⟨b', off', e', y0, y1⟩ := (HR.out.below HBL.out).xp hlt
      cases e'
      have i0 : (0 : Int) ≤ (i : Int) := by omega
      have i1 : (i : Int) < (n : Int) := by omega
      have hTi := HT.out i hlt
      generalize hgi : xg F i = x at *
      generalize hgm : xg F m = z at *
      obtain ⟨xp, xt⟩ := x
      obtain ⟨zp, zt⟩ := z
      simp only at y0 y1 m0 m1 hTi hTm
      have HC := Lib.hid (fun w' => c77_any xp zp xt zt w' hTi hTm)
      have HGI := Lib.hid hgi
      have HGM := Lib.hid hgm
      clear hgi hgm
      go_upto_region 7 with fail
      go_cut [27] from 20 to 27 (fun s wx => s = .bool (decide (xt < zt)) ∧ Below wr.heap.size wr wx)
      case first =>
        have d1 : decide ((xt : Int) - (zt : Int) < 0) = decide (xt < zt) := by by_cases h : xt < zt <;> simp [h] <;> omega
        go_region_with (go_at_call 77; refine (HC.out _).mono ?_; rintro e w2 ⟨rfl, hb2⟩; have B2 := Lib.hid (show Below wr.heap.size wr w2 from (by first | exact hb2 | exact (Below.refl _ _).drew.trans (hb2.mono (Nat.le_refl _)))); clear hb2)
        all_goals
          go_wp2_with fail
          go_meet
          case rel => exact ⟨by first | rfl | exact congrArg Value.bool d1 | simp [d1], by first | exact B2.out | exact B2.out.drew⟩
      case rest =>
      obtain ⟨rfl, hbw⟩ := hcut
      rename World => W3
      have BW := Lib.hid (HBL.out.trans (hbw.mono HBL.out.size))
      have S1 := Lib.hid ((hbw.block _ (row_lt HR1.out)).trans HR1.out)
      have S0 := Lib.hid ((hbw.block _ (row_lt HR0.out)).trans HR0.out)
      obtain ⟨b', off', e', q0, q1⟩ := (HR.out.below BW.out).xp hlt
      cases e'
      rw [HGI.out] at q0 q1
      simp only at q0 q1
      clear hbw y0 y1 m0 m1
      have hwi : IntKind.i64.wrap ((i : Int) + 1) = (i : Int) + 1 := IntWalk.i64_in _ (by omega)
      by_cases hl : xt < zt
      · have d2 : decide (xt < zt) = true := decide_eq_true hl
        rw [d2]
        clear d2
        go_wp2_with (with_reducible (show wpList _ _ _ (⟨none, .store 70 (.tmp 5) (.tmp 31), _, _, _, _⟩ :: _) _ _); refine wpList_store_row (o := ⟨none, .store 70 (.tmp 5) (.tmp 31), _, _, _, _⟩) rfl 70 (.tmp 5) (.tmp 31) rfl (w.heap.size + 1) #[.int .i64 xp, .int .i64 (xt : Int)] rfl rfl 70 #[.int .i64 zp, .int .i64 (zt : Int)] S1.out (info70 xp xt) rfl (by simp [Value.oneCell']) ?_)
        refine ⟨⟨i + 1, i, by omega, by omega, by omega, congrArg (Value.int .i64) (by omega), ?_, ?_, fun j hj => ?_, below_setRow BW.out (by omega) _⟩, by simp [intOf]; omega⟩
        · rw [HGI.out]; exact setRow_heap _ _ _ _ _ _ S1.out
        · exact (setRow_other _ _ _ _ (by omega)).trans S0.out
        · rw [HGI.out]
          by_cases e : j = i
          · rw [e, HGI.out]; exact Nat.le_refl _
          · have := HMIN.out j (by omega)
            simp only at this ⊢
            omega
      · have d2 : decide (xt < zt) = false := decide_eq_false hl
        rw [d2]
        clear d2
        go_wp2_with fail
        refine ⟨⟨i + 1, m, by omega, by omega, by omega, congrArg (Value.int .i64) (by omega), by rw [HGM.out]; exact S1.out, S0.out, fun j hj => ?_, BW.out⟩, by simp [intOf]; omega⟩
        rw [HGM.out]
        by_cases e : j = i
        · rw [e, HGI.out]; simp only; omega
        · exact HMIN.out j (by omega)
    · obtain rfl : i = n := by omega
      go_wp2_with (with_reducible (show wpList _ _ _ (⟨none, .store 70 (.tmp 4) (.tmp 32), _, _, _, _⟩ :: _) _ _); refine wpList_store_row (o := ⟨none, .store 70 (.tmp 4) (.tmp 32), _, _, _, _⟩) rfl 70 (.tmp 4) (.tmp 32) rfl w.heap.size #[.int .i64 (xg F m).1, .int .i64 ((xg F m).2 : Int)] rfl rfl 70 #[.int .i64 0, .int .i64 0] HR0.out (info70 _ _) rfl (by simp [Value.oneCell']) ?_)
      exact bodyPost_ret (v := .agg #[.int .i64 (xg F m).1, .int .i64 ((xg F m).2 : Int)]) (results_cell_row rfl _ _ w.heap.size 70 #[.int .i64 (xg F m).1, .int .i64 ((xg F m).2 : Int)] (0, 0) _ rfl (setRow_heap _ _ _ _ _ _ HR0.out) Tryz.underlying70 rfl (info70 _ _)) rfl ⟨m, hm, rfl, HMIN.out, below_setRow HBL.out (Nat.le_refl _) _⟩
/-- What First tells. -/
def FiP (F : List (Int × Nat)) (s : Int) (b : Bool) : Prop := (F.length = 0 → b = false ∧ s = 0) ∧ (0 < F.length → b = true ∧ ∃ j, j < F.length ∧ s = ((xg F j).2 : Int) ∧ ∀ i, i < F.length → (xg F j).2 ≤ (xg F i).2)
theorem tiM_le {d : Dy} {a : Es} (hok : Ok d) (hea : Eok a) {r : Nat} (h : TiM d a r) : r ≤ 1099511627776 := by
  rcases h with ⟨j, h1, h2⟩ | ⟨j, h1, h2⟩
  · have := (hea.e j h1).2.1
    omega
  · have := (hok.e j h1).t
    omega
theorem exL_le {d : Dy} {a : Es} (hok : Ok d) (hea : Eok a) {n : Nat} {c : Int} : ∀ k x, x ∈ exL d a n c k → x.2 ≤ 1099511627776
  | 0, _, h => by cases h
  | k + 1, x, h => by
    cases e : siF d a n c ((k : Int) - 1) with
    | none => rw [exL_none e] at h; exact exL_le hok hea k x h
    | some T =>
      rw [exL_some e, List.mem_append, List.mem_singleton] at h
      rcases h with h | h
      · exact exL_le hok hea k x h
      · rw [h]; exact tiM_le hok hea (siF_is e).1
theorem xg_mem {F : List (Int × Nat)} {j : Nat} (h : j < F.length) : xg F j ∈ F := by
  unfold xg
  rw [List.getD_eq_getElem?_getD, List.getElem?_eq_getElem h]
  exact List.getElem_mem h
set_option maxRecDepth 100000 in
set_option maxHeartbeats 2000000 in
/-- The product's First. -/
theorem xfirst_any (d : Dy) (v : Vd) (a : Es) (u : Ve) (n : Nat) (c : Int) (w : World) (h : DL w 0 d v) (hok : Ok d) (he : EL w 0 a u) (hea : Eok a) (hn : a.n = (n : Int)) (hc : 0 ≤ c ∧ c < 64) :
    Calls Tryz.prog 32 #[.agg (gd d v), .agg (ge a u), .int .i64 c] w fun e w' => ∃ (s : Int) (b : Bool), e = .returned (.tuple #[.int .i64 s, .bool b]) ∧ FiP (exL d a n c (d.k.length + 1)) s b ∧ Below w.heap.size w w' := by
  have hbx := (box_below w (.cells (gd d v) 25)).trans ((box_below (w.alloc (.cells (gd d v) 25)) (.cells (ge a u) 28)).mono (by simp))
  have HBX := Lib.hid hbx
  have D1 := heap_alloc2_old w (.cells (gd d v) 25) (.cells (ge a u) 28)
  have E1 := heap_alloc2_new w (.cells (gd d v) 25) (.cells (ge a u) 28)
  obtain ⟨g0, g1⟩ := gdCells D1
  obtain ⟨c0, c1⟩ := geCells E1
  have hall := xall_any d v a u n c _ (h.below hbx) hok (Row.below he hbx) hea hn hc
  unfold AlPost at hall
  have HFD := Lib.hid (show (#[.slice v.A1 d.k.length v.c1, .slice v.A2 d.e.length v.c2] : Array Value) = gd d v from rfl)
  have HFE := Lib.hid (show (#[.int .i64 a.n, .slice u.A a.e.length u.c] : Array Value) = ge a u from rfl)
  have hlen := exL_len d a n c (d.k.length + 1)
  have hn24 := hok.n
  have HLE := Lib.hid (exL_le hok hea (n := n) (c := c) (d.k.length + 1))
  generalize exL d a n c (d.k.length + 1) = F at *
  obtain ⟨f, hf⟩ : ∃ f, F.length = f := ⟨_, rfl⟩
  have HF := Lib.hid hf
  rw [hf] at hall hlen
  have HALL := Lib.hid hall
  clear h hok he hea hn hc hbx hall D1 E1 hf
  by_cases hf0 : f = 0
  · subst hf0
    go_enter Tryz.func32, Tryz.ntmps32
    go_wp2_with (go_at_call 27; rw [HFD.out, HFE.out]; refine HALL.out.mono ?_; rintro e w1 ⟨X, xc, rfl, hown, hb1⟩; have B1 := Lib.hid (HBX.out.trans (hb1.mono HBX.out.size)); clear hb1 hown g0 g1 c0 c1)
    go_ret2
    exact ⟨0, false, by first | rfl | simp, ⟨fun _ => ⟨rfl, rfl⟩, fun h => by have := HF.out; omega⟩, B1.out⟩
  · have e0 : ((f : Int) == 0) = false := beq_eq_false_iff_ne.2 (by omega)
    have HF0 := Lib.hid (show 1 ≤ f by omega)
    clear hf0
    go_enter Tryz.func32, Tryz.ntmps32
    go_wp2_with (first
      | (go_at_call 27; rw [HFD.out, HFE.out]; refine HALL.out.mono ?_; rintro e w1 ⟨X, xc, rfl, hown, hb1⟩; have B1 := Lib.hid (HBX.out.trans (hb1.mono HBX.out.size)); have HMN := Lib.hid (xmin_any X f xc F w1 ((row_of_own hown).base (Nat.zero_le _)) HF0.out (by omega) (fun j hj => HLE.out _ (xg_mem (by rw [HF.out]; exact hj)))); clear hb1 hown g0 g1 c0 c1)
      | (go_at_call 76; refine HMN.out.mono ?_; rintro e w2 ⟨j, hj, rfl, hmin, hb2⟩; have HJ := Lib.hid hj; have HMIN := Lib.hid hmin; have hbn := box_below w2 (.cells #[.int .i64 (xg F j).1, .int .i64 ((xg F j).2 : Int)] 70); have N2 := heap_alloc_new w2 (.cells #[.int .i64 (xg F j).1, .int .i64 ((xg F j).2 : Int)] 70); obtain ⟨n0, n1⟩ := xc2 N2; have B2 := Lib.hid (B1.out.trans ((hb2.trans (hbn.mono hb2.size)).mono B1.out.size)); clear hj hmin hb2 hbn N2))
    go_ret2
    exact ⟨_, true, by first | rfl | simp, ⟨fun h => by have := HF.out; have := HF0.out; omega, fun _ => ⟨rfl, j, by rw [HF.out]; exact HJ.out, rfl, fun i hi => HMIN.out i (by rw [← HF.out]; exact hi)⟩⟩, B2.out⟩

end Go.Proofs.YtgknfkmojhganaaGreat.Di

namespace Go.Proofs.YtgknfkmojhganaaGreat.Di
open Go.RowKit
set_option linter.unusedVariables false
set_option linter.unusedSimpArgs false

/-! Where everybody could read. -/
theorem siF_one {d : Dy} {a : Es} {n : Nat} {c : Int} {T0 p : Nat} (h : siF d a n c (-1) = some T0) (hr : rB d p = true) : ∃ T, siF d a n c (p : Int) = some T ∧ T ≤ T0 := by
  obtain ⟨h1, h2, -⟩ := siF_is h
  have hx : xwB d a n c (p : Int) T0 = true := by
    unfold xwB at h2 ⊢
    rw [any_iff] at h2 ⊢
    obtain ⟨P, hP, h3⟩ := h2
    refine ⟨P, hP, ?_⟩
    rw [Bool.and_eq_true] at h3 ⊢
    refine ⟨h3.1, ?_⟩
    have h4 := h3.2
    unfold xB at h4 ⊢
    rw [if_pos rfl] at h4
    rw [if_neg (by omega)]
    show mayB d a p P T0 = true
    unfold mayB
    rw [hr, h4]
    rfl
  obtain ⟨T, h3, h4⟩ := leM_ex T0 h1 hx
  exact ⟨T, siF_yes h3, h4⟩
theorem siF_nor {d : Dy} {a : Es} {n : Nat} {c : Int} {p : Nat} (hr : rB d p = false) : siF d a n c (p : Int) = none := siF_no fun r _ => by
  rw [← Bool.not_eq_true]
  unfold xwB
  rw [any_iff]
  rintro ⟨P, _, h⟩
  rw [Bool.and_eq_true] at h
  have h2 := h.2
  unfold xB at h2
  rw [if_neg (by omega)] at h2
  have h3 : mayB d a p P r = true := h2
  unfold mayB at h3
  rw [hr] at h3
  cases h3
theorem exL_pub {d : Dy} {a : Es} {n : Nat} {c : Int} {T0 : Nat} (h : siF d a n c (-1) = some T0) : ∀ k, ∃ L, exL d a n c (k + 1) = (-1, T0) :: L ∧ L.length = cnt (rB d) k ∧ ∀ x, x ∈ L → x.2 ≤ T0
  | 0 => ⟨[], by rw [exL_some (show siF d a n c (((0 : Nat) : Int) - 1) = some T0 from h)]; rfl, rfl, fun x hx => by cases hx⟩
  | k + 1 => by
    obtain ⟨L, h1, h2, h3⟩ := exL_pub h k
    have e : ((k + 1 : Nat) : Int) - 1 = (k : Int) := by omega
    cases hr : rB d k with
    | true =>
      obtain ⟨T, h4, h5⟩ := siF_one h hr
      refine ⟨L ++ [((k : Int), T)], ?_, ?_, fun x hx => ?_⟩
      · rw [exL_some (show siF d a n c (((k + 1 : Nat) : Int) - 1) = some T from by rw [e]; exact h4), h1, e]
        rfl
      · rw [List.length_append, h2, cnt_tt hr]
        rfl
      · rw [List.mem_append, List.mem_singleton] at hx
        rcases hx with hx | hx
        · exact h3 x hx
        · rw [hx]; exact h5
    | false =>
      refine ⟨L, ?_, ?_, h3⟩
      · rw [exL_none (show siF d a n c (((k + 1 : Nat) : Int) - 1) = none from by rw [e]; exact siF_nor hr), h1]
      · rw [h2, cnt_ff hr]
theorem exL_notpub {d : Dy} {a : Es} {n : Nat} {c : Int} (h : siF d a n c (-1) = none) : ∀ k x, x ∈ exL d a n c k → x.1 ≠ -1
  | 0, _, hx => by cases hx
  | k + 1, x, hx => by
    cases e : siF d a n c ((k : Int) - 1) with
    | none => rw [exL_none e] at hx; exact exL_notpub h k x hx
    | some T =>
      rw [exL_some e, List.mem_append, List.mem_singleton] at hx
      rcases hx with hx | hx
      · exact exL_notpub h k x hx
      · rw [hx]
        show (k : Int) - 1 ≠ -1
        intro hk
        have : k = 0 := by omega
        subst this
        rw [show ((0 : Nat) : Int) - 1 = -1 from rfl, h] at e
        cases e
/-- What the law asks of a list that begins with everybody. -/
theorem pub_is {d : Dy} {a : Es} {n : Nat} {c : Int} {F : List (Int × Nat)} (hF : exL d a n c (d.k.length + 1) = F) (h0 : 0 < F.length) (h1 : (xg F 0).1 = -1) : F.length = cnt (rB d) d.k.length + 1 ∧ ∀ i, i < F.length → (xg F i).2 ≤ (xg F 0).2 := by
  cases e : siF d a n c (-1) with
  | none =>
    have := exL_notpub e (d.k.length + 1) (xg F 0) (by rw [hF]; exact xg_mem h0)
    exact absurd h1 this
  | some T0 =>
    obtain ⟨L, h2, h3, h4⟩ := exL_pub e d.k.length
    rw [hF] at h2
    subst h2
    refine ⟨by rw [List.length_cons, h3], fun i hi => ?_⟩
    have hm := xg_mem hi
    rw [List.mem_cons] at hm
    rcases hm with hm | hm
    · rw [hm]; exact Nat.le_refl _
    · exact h4 _ hm
theorem own_capX {w : World} {B n c e s : Nat} {A : Option Addr} {xs : List Value} (h : w.ownsRow B e s (.slice A n c) n xs) : n ≤ c := by
  rcases h.2 with ⟨_, e⟩ | ⟨g', cap, cur, hv, _, _, h1, _⟩
  · omega
  · cases hv; exact h1

end Go.Proofs.YtgknfkmojhganaaGreat.Di

namespace Go.Proofs.YtgknfkmojhganaaGreat.Di
open Go.RowKit
open Go.Proofs.YtgknfkmojhganaaGreat.Tp
set_option linter.unusedVariables false
set_option linter.unusedSimpArgs false
/-- A way of a content to a place, among the first k events. -/
structure IsW (l : List Ac) (c t : Int) (k : Nat) (q : Int) (L : List Nat) : Prop where
  asc : ∀ i, i + 1 < L.length → L.getD i 0 < L.getD (i + 1) 0
  lt : ∀ i, i < L.length → L.getD i 0 < k ∧ (ag l (L.getD i 0)).t ≤ t
  put : (ag l (L.getD 0 0)).k = 5 ∧ (ag l (L.getD 0 0)).c = c
  cpy : ∀ i, i + 1 < L.length → (ag l (L.getD (i + 1) 0)).k = 7 ∧ (ag l (L.getD (i + 1) 0)).f = (ag l (L.getD i 0)).p
  fin : (ag l (L.getD (L.length - 1) 0)).p = q
  no : ∀ i, i < L.length → ∀ j, L.getD i 0 < j → (i + 1 < L.length → j < L.getD (i + 1) 0) → j < k → (ag l j).t ≤ t → ¬ ((ag l j).k = 6 ∧ (ag l j).c = c ∧ (ag l j).p = (ag l (L.getD i 0)).p)
theorem getD_left {L : List Nat} {x i : Nat} (h : i < L.length) : (L ++ [x]).getD i 0 = L.getD i 0 := by
  rw [List.getD_eq_getElem?_getD, List.getD_eq_getElem?_getD, List.getElem?_append_left h]
theorem getD_end {L : List Nat} {x : Nat} : (L ++ [x]).getD L.length 0 = x := by
  rw [List.getD_eq_getElem?_getD, List.getElem?_append_right (Nat.le_refl _)]
  simp
theorem IsW.keep {l : List Ac} {c t : Int} {k : Nat} {q : Int} {L : List Nat} (h : IsW l c t k q L) (hl : 0 < L.length) (hk : (ag l k).t ≤ t → ¬ ((ag l k).k = 6 ∧ (ag l k).c = c ∧ (ag l k).p = q)) : IsW l c t (k + 1) q L := by
  refine ⟨h.asc, fun i hi => ⟨by have := (h.lt i hi).1; omega, (h.lt i hi).2⟩, h.put, h.cpy, h.fin, fun i hi j h1 h2 h3 h4 => ?_⟩
  by_cases e : j = k
  · by_cases e2 : i + 1 < L.length
    · have := h2 e2; have := (h.lt (i + 1) e2).1; omega
    · have e3 : i = L.length - 1 := by omega
      rw [e3, h.fin]
      rw [e] at h4 ⊢
      exact hk h4
  · exact h.no i hi j h1 h2 (by omega) h4
theorem IsW.snoc {l : List Ac} {c t : Int} {k : Nat} {q f : Int} {L : List Nat} (h : IsW l c t k f L) (hl : 0 < L.length) (h1 : (ag l k).k = 7) (h2 : (ag l k).f = f) (h3 : (ag l k).p = q) (h4 : (ag l k).t ≤ t) : IsW l c t (k + 1) q (L ++ [k]) := by
  have hlast := h.fin
  refine ⟨fun i hi => ?_, fun i hi => ?_, ?_, fun i hi => ?_, ?_, fun i hi j a1 a2 a3 a4 => ?_⟩
  · simp at hi
    by_cases e : i + 1 = L.length
    · rw [e, getD_end, getD_left (by omega)]; exact (h.lt i (by omega)).1
    · rw [getD_left (by omega), getD_left (by omega)]; exact h.asc i (by omega)
  · simp at hi
    by_cases e : i = L.length
    · rw [e, getD_end]; exact ⟨by omega, h4⟩
    · rw [getD_left (by omega)]; exact ⟨by have := (h.lt i (by omega)).1; omega, (h.lt i (by omega)).2⟩
  · rw [getD_left hl]; exact h.put
  · simp at hi
    by_cases e : i + 1 = L.length
    · rw [e, getD_end, getD_left (by omega), show i = L.length - 1 by omega, hlast]; exact ⟨h1, h2⟩
    · rw [getD_left (by omega), getD_left (by omega)]; exact h.cpy i (by omega)
  · rw [show (L ++ [k]).length - 1 = L.length by simp, getD_end]; exact h3
  · simp at hi
    by_cases e : i = L.length
    · rw [e, getD_end] at a1; omega
    · rw [getD_left (by omega)] at a1 ⊢
      by_cases e2 : i + 1 = L.length
      · have a2' := a2 (by simp; omega)
        rw [e2, getD_end] at a2'
        exact h.no i (by omega) j a1 (fun h => by omega) a2' a4
      · have a2' := a2 (by simp; omega)
        rw [getD_left (by omega)] at a2'
        have := (h.lt (i + 1) (by omega)).1
        exact h.no i (by omega) j a1 (fun h => a2') (by omega) a4
/-- What is followed is a way. -/
theorem wy_is (l : List Ac) (c t : Int) : ∀ k q, wy l c t k q ≠ [] → IsW l c t k q (wy l c t k q)
  | 0, q, h => absurd rfl h
  | k + 1, q, h => by
    have ih := wy_is l c t k
    revert h
    rw [wy]
    by_cases e : t < (ag l k).t
    · rw [if_pos e]
      intro h
      exact (ih q h).keep (List.length_pos_iff.2 h) (fun h => by omega)
    · rw [if_neg e]
      unfold wst
      by_cases e5 : (ag l k).k = 5
      · rw [if_pos e5]
        by_cases e1 : (ag l k).c = c ∧ q = (ag l k).p
        · rw [if_pos e1]
          intro _
          refine ⟨fun i hi => absurd hi (by simp), fun i hi => ?_, ⟨e5, e1.1⟩, fun i hi => absurd hi (by simp), e1.2.symm, fun i hi j a1 a2 a3 a4 => ?_⟩
          · obtain rfl : i = 0 := by simpa using hi
            exact ⟨by show k < k + 1; omega, by show (ag l k).t ≤ t; omega⟩
          · obtain rfl : i = 0 := by simpa using hi
            have a1 : k < j := a1
            omega
        · rw [if_neg e1]
          intro h
          exact (ih q h).keep (List.length_pos_iff.2 h) (fun _ h => by omega)
      · rw [if_neg e5]
        by_cases e6 : (ag l k).k = 6
        · rw [if_pos e6]
          by_cases e1 : (ag l k).c = c ∧ q = (ag l k).p
          · rw [if_pos e1]; intro h; exact absurd rfl h
          · rw [if_neg e1]
            intro h
            exact (ih q h).keep (List.length_pos_iff.2 h) (fun _ h => e1 ⟨h.2.1, h.2.2.symm⟩)
        · rw [if_neg e6]
          by_cases e7 : (ag l k).k = 7
          · rw [if_pos e7]
            by_cases e1 : q = (ag l k).p ∧ wy l c t k (ag l k).f ≠ [] ∧ wy l c t k q = []
            · rw [if_pos e1]
              intro _
              exact (ih _ e1.2.1).snoc (List.length_pos_iff.2 e1.2.1) e7 rfl e1.1.symm (by omega)
            · rw [if_neg e1]
              intro h
              exact (ih q h).keep (List.length_pos_iff.2 h) (fun _ h => by omega)
          · rw [if_neg e7]
            intro h
            exact (ih q h).keep (List.length_pos_iff.2 h) (fun _ h => by omega)
theorem below_dn2 {B : Nat} {w w2 : World} (h : Below B w w2) (n : Nat) : Below B w (w2.drewN n) := ⟨h.os, h.tape, h.output, h.size, h.block⟩
set_option maxRecDepth 100000 in
set_option maxHeartbeats 2000000 in
theorem removed_no (a : Es) (v : Ve) (c p t : Int) (bh fr : Nat) (w : World) (h : EL w 0 a v) (hm : a.e.length ≤ 120) (hb : bh < a.e.length) (hf : fr ≤ a.e.length)
    (hno : ∀ j, bh < j → j < fr → (ag a.e j).t ≤ t → ¬ ((ag a.e j).k = 6 ∧ (ag a.e j).c = c ∧ (ag a.e j).p = p)) :
    Calls Tryz.prog 121 #[.agg (ge a v), .int .i64 c, .int .i64 p, .int .i64 (bh : Int), .int .i64 (fr : Int), .int .i64 t] w fun e w' => e = .returned (.bool false) ∧ Below w.heap.size w w' := by
  obtain ⟨A, vc⟩ := v
  have HB0 := Lib.hid (box_below w (.cells (ge a ⟨A, vc⟩) 28))
  have HR0 := Lib.hid (heap_alloc_new w (.cells (ge a ⟨A, vc⟩) 28))
  have HE := Lib.hid (Row.below h HB0.out)
  have HNO := Lib.hid hno
  clear h hno
  obtain ⟨f, hbf⟩ : ∃ f, bh + 1 = f := ⟨_, rfl⟩
  have hsum : (bh : Int) + 1 = (f : Int) := by omega
  have hf1 : f ≤ 120 := by omega
  have HFB := Lib.hid hbf
  clear hbf
  have lQ := row_lt HR0.out
  go_enter Tryz.func121, Tryz.ntmps121
  go_wp2_with fail
  generalize w.alloc (.cells (ge a ⟨A, vc⟩) 28) = W1 at *
  go_loopw [13] (fun ii wr => ∃ k : Nat, f ≤ k ∧ (k ≤ fr ∨ k = f) ∧ ii = .int .i64 (k : Int) ∧ Below W1.heap.size W1 wr) (fun ii _ => fr - (intOf ii).toNat)
  case atStart => exact ⟨f, Nat.le_refl _, .inr rfl, rfl, Below.refl _ _⟩
  case round =>
    obtain ⟨k, hk1, hk2, rfl, hbl⟩ := hrel
    have HBL := Lib.hid hbl
    have MQ := Lib.hid ((hbl.block _ lQ).trans HR0.out)
    obtain ⟨c0, c1⟩ := geCells MQ.out
    by_cases hlt : k < fr
    · have d0 : decide ((k : Int) < (fr : Int)) = true := decide_eq_true (by omega)
      obtain ⟨b, off, hA, -, hbk, hac⟩ := Row.ac (HE.out.below hbl) (show k < a.e.length by omega)
      have hA : A = some ⟨b, off, none⟩ := hA
      subst hA
      obtain ⟨y0, y1, y2, y3, y4, y5, y6⟩ := hac
      have hn := HNO.out k (by have := HFB.out; omega) hlt
      generalize ag a.e k = x at *
      obtain ⟨xt, xk, xp, xr, xu, xc, xf⟩ := x
      simp only at y0 y1 y2 y3 y4 y5 y6 hn
      have hbx := box_below wr (.cells #[.int .i64 xt, .int .i64 xk, .int .i64 xp, .int .i64 xr, .int .i64 xu, .int .i64 xc, .int .i64 xf] 76)
      have BX := Lib.hid (hbl.trans (hbx.mono hbl.size))
      have XN := Lib.hid (heap_alloc_new wr (.cells #[.int .i64 xt, .int .i64 xk, .int .i64 xp, .int .i64 xr, .int .i64 xu, .int .i64 xc, .int .i64 xf] 76))
      obtain ⟨n0, n1, n2, n3, n4, n5, n6⟩ := accCells (x := ⟨xt, xk, xp, xr, xu, xc, xf⟩) XN.out
      simp only at n0 n1 n2 n3 n4 n5 n6
      have i0 : (0 : Int) ≤ (k : Int) := by omega
      have i1 : (k : Int) < (a.e.length : Int) := by omega
      have hk120 : k ≤ 120 := by omega
      clear hbx hbl
      by_cases h6 : xk = 6
      · have e1 : (xk == 6) = true := by rw [h6]; rfl
        by_cases h7 : xc = c
        · have e2 : (xc == c) = true := by rw [h7]; simp
          by_cases h8 : xp = p
          · have e3 : (xp == p) = true := by rw [h8]; simp
            have e4 : decide (xt ≤ t) = false := decide_eq_false (fun h => hn h ⟨h6, h7, h8⟩)
            clear hn h6 h7 h8
            go_wp2_with fail
            exact ⟨⟨k + 1, by omega, by omega, by go_num, BX.out⟩, by simp [intOf]; omega⟩
          · have e3 : (xp == p) = false := beq_eq_false_iff_ne.2 h8
            clear hn h6 h7 h8
            go_wp2_with fail
            exact ⟨⟨k + 1, by omega, by omega, by go_num, BX.out⟩, by simp [intOf]; omega⟩
        · have e2 : (xc == c) = false := beq_eq_false_iff_ne.2 h7
          clear hn h6 h7
          go_wp2_with fail
          exact ⟨⟨k + 1, by omega, by omega, by go_num, BX.out⟩, by simp [intOf]; omega⟩
      · have e1 : (xk == 6) = false := beq_eq_false_iff_ne.2 h6
        clear hn h6
        go_wp2_with fail
        exact ⟨⟨k + 1, by omega, by omega, by go_num, BX.out⟩, by simp [intOf]; omega⟩
    · have d0 : decide ((k : Int) < (fr : Int)) = false := decide_eq_false (by omega)
      have HBF := Lib.hid (HB0.out.trans (hbl.mono HB0.out.size))
      clear hbl
      go_wp2_with fail
      go_ret
      exact ⟨by first | rfl | simp, HBF.out⟩

set_option maxRecDepth 100000 in
set_option maxHeartbeats 8000000 in
theorem proves_yes (a : Es) (v : Ve) (c t : Int) (P n cc : Nat) (L : List Nat) (Aw : Option Addr) (w : World) (h : EL w 0 a v) (hok : Eok a) (hn : a.n = (n : Int)) (hP : P < n) (hc : 0 ≤ c ∧ c < 64)
    (hr : Row w 0 1 Aw L.length (iv L)) (hl0 : 0 < L.length) (hl1 : L.length ≤ 200) (hw : IsW a.e c t a.e.length (P : Int) L) :
    Calls Tryz.prog 75 #[.agg (ge a v), .int .i64 c, .int .i64 (P : Int), .int .i64 t, .slice Aw L.length cc] w fun e w' => e = .returned (.bool true) ∧ Below w.heap.size w w' := by
  obtain ⟨A, vc⟩ := v
  have hm := hok.m
  have HB0 := Lib.hid (box_below w (.cells (ge a ⟨A, vc⟩) 28))
  have HR0 := Lib.hid (heap_alloc_new w (.cells (ge a ⟨A, vc⟩) 28))
  have HE := Lib.hid (Row.below h HB0.out)
  have HRW := Lib.hid (Row.below hr HB0.out)
  obtain ⟨c0, c1⟩ := geCells HR0.out
  have HCK := Lib.hid (exc_yes a ⟨A, vc⟩ (P : Int) _ (Row.below h HB0.out) ⟨hok, by omega, by omega⟩)
  have HCY := Lib.hid (fun w' => content_yes hc w')
  have HF := Lib.hid (show (#[.int .i64 a.n, .slice A a.e.length vc] : Array Value) = ge a ⟨A, vc⟩ from rfl)
  have HW := Lib.hid hw
  clear h hr hw hn hok
  obtain ⟨m, hml⟩ : ∃ m, L.length = m := ⟨_, rfl⟩
  rw [hml] at hl0 hl1
  have HML := Lib.hid hml
  rw [hml] at HRW ⊢
  have e0 : ((m : Int) == 0) = false := beq_eq_false_iff_ne.2 (by omega)
  clear hml
  have lQ := row_lt HR0.out
  go_enter Tryz.func75, Tryz.ntmps75
  go_wp2_with (first
    | (go_at_call 118; rw [HF.out]; refine HCK.out.mono ?_; rintro e w1 ⟨rfl, hb1⟩; have HB1 := Lib.hid (HB0.out.trans (hb1.mono HB0.out.size)); have M1 := Lib.hid ((hb1.block _ lQ).trans HR0.out); have E1 := Lib.hid (HE.out.below hb1); have R1 := Lib.hid (HRW.out.below hb1); clear hb1 c0 c1; obtain ⟨c0, c1⟩ := geCells M1.out)
    | (go_at_call 119; (with_reducible refine (HCY.out _).mono ?_); rintro e w1 ⟨rfl, rfl⟩))
  have l1 := row_lt M1.out
  clear c0 c1 HE HRW HR0 HCK lQ
  go_loopw [31] (fun ii wr => ∃ k : Nat, k ≤ m ∧ ii = .int .i64 (k : Int) ∧ Below w1.heap.size w1 wr) (fun ii _ => m - (intOf ii).toNat)
  case atStart => exact ⟨0, by omega, rfl, Below.refl _ _⟩
  case round =>
    obtain ⟨k, hk, rfl, hbl⟩ := hrel
    have HBL := Lib.hid hbl
    have MQ := Lib.hid ((hbl.block _ l1).trans M1.out)
    have HRV := Lib.hid (fun q (hq : q < m) => (R1.out.below hbl).int hq)
    have HEV := Lib.hid (fun q (hq : q < a.e.length) => (E1.out.below hbl).ac hq)
    by_cases hlt : k < m
    · obtain ⟨c0, c1⟩ := geCells MQ.out
      obtain ⟨bw, ow, hAw, -, -, y9⟩ := HRV.out k hlt
      subst hAw
      obtain ⟨hi1, hi2⟩ := HW.out.lt k (by rw [HML.out]; exact hlt)
      have hno := HW.out.no k (by rw [HML.out]; exact hlt)
      have HNO := Lib.hid hno
      have hput := fun (h : k = 0) => (by subst h; exact HW.out.put : (ag a.e (L.getD k 0)).k = 5 ∧ (ag a.e (L.getD k 0)).c = c)
      have hcpy := fun j (hj : k = j + 1) => (by have h1 := HW.out.cpy j (by rw [HML.out]; omega); have h2 := HW.out.asc j (by rw [HML.out]; omega); have h3 := HW.out.lt j (by rw [HML.out]; omega); rw [← hj] at h1 h2; exact ⟨h1.1, h1.2, h2, h3.1⟩ : (ag a.e (L.getD k 0)).k = 7 ∧ (ag a.e (L.getD k 0)).f = (ag a.e (L.getD j 0)).p ∧ L.getD j 0 < L.getD k 0 ∧ L.getD j 0 < a.e.length)
      have hnx := fun (h : k + 1 < m) => (by have h2 := HW.out.asc k (by rw [HML.out]; omega); have h3 := HW.out.lt (k + 1) (by rw [HML.out]; omega); exact ⟨h2, h3.1⟩ : L.getD k 0 < L.getD (k + 1) 0 ∧ L.getD (k + 1) 0 < a.e.length)
      generalize hgi : L.getD k 0 = i at *
      obtain ⟨b, off, hA, -, hbk, hac⟩ := HEV.out i hi1
      have hA : A = some ⟨b, off, none⟩ := hA
      subst hA
      obtain ⟨y0, y1, y2, y3, y4, y5, y6⟩ := hac
      have HXE := Lib.hid (show ag a.e i = ag a.e i from rfl)
      generalize hgx : ag a.e i = x at *
      obtain ⟨xt, xk, xp, xr, xu, xc, xf⟩ := x
      simp only at y0 y1 y2 y3 y4 y5 y6 hi2 hput hcpy
      have HRM := Lib.hid (fun fr (hf : fr ≤ a.e.length) (hq : ∀ j, j < fr → k + 1 < m → j < L.getD (k + 1) 0) w' (hb : Below w1.heap.size w1 w') => removed_no a ⟨some ⟨b, off, none⟩, vc⟩ c xp t i fr w' (Row.below E1.out hb) hm hi1 hf (fun j h1 h2 h3 => by have h5 := HNO.out j h1 (by rw [HML.out]; exact hq j h2) (by omega) h3; exact h5))
      have hbx := box_below wr (.cells #[.int .i64 xt, .int .i64 xk, .int .i64 xp, .int .i64 xr, .int .i64 xu, .int .i64 xc, .int .i64 xf] 76)
      have BX := Lib.hid (hbl.trans (hbx.mono hbl.size))
      have XN := Lib.hid (heap_alloc_new wr (.cells #[.int .i64 xt, .int .i64 xk, .int .i64 xp, .int .i64 xr, .int .i64 xu, .int .i64 xc, .int .i64 xf] 76))
      obtain ⟨n0, n1, n2, n3, n4, n5, n6⟩ := accCells (x := ⟨xt, xk, xp, xr, xu, xc, xf⟩) XN.out
      simp only at n0 n1 n2 n3 n4 n5 n6
      have i0 : (0 : Int) ≤ (i : Int) := by omega
      have i1 : (i : Int) < (a.e.length : Int) := by omega
      have k0 : (0 : Int) ≤ (k : Int) := by omega
      have k1 : (k : Int) < (m : Int) := by omega
      have d1 : decide ((i : Int) < 0) = false := decide_eq_false (by omega)
      have d2 : decide ((a.e.length : Int) ≤ (i : Int)) = false := decide_eq_false (by omega)
      have d3 : decide (t < xt) = false := decide_eq_false (by omega)
      have MX := Lib.hid ((hbx.block _ (row_lt MQ.out)).trans MQ.out)
      obtain ⟨u0, u1⟩ := geCells MX.out
      have hr8 := fun j (hj : k = j + 1) => HRV.out j (by omega)
      have HXR := Lib.hid (fun q (hq : q < m) => (((R1.out.below hbl).below hbx)).int hq)
      have HXV := Lib.hid (fun q (hq : q < a.e.length) => (((E1.out.below hbl).below hbx)).ac hq)
      obtain ⟨nk, hnk⟩ : ∃ nk, k + 1 = nk := ⟨_, rfl⟩
      have hsum : (k : Int) + 1 = (nk : Int) := by omega
      have HNK := Lib.hid hnk
      have hxe := HXE.out
      clear hbx hbl hno hgi hgx hnk HXE HEV HRV hxe
      by_cases hk0 : k = 0
      · obtain ⟨hx5, hxc⟩ := hput hk0
        subst hx5 hxc
        subst hk0
        have e1 : (xc != xc) = false := by simp
        clear hput hcpy hr8
        simp only [Nat.add_zero] at y9
        simp only [show ((0 : Nat) : Int) = 0 from rfl] at *
        by_cases hnm : nk < m
        · have d8 : decide ((nk : Int) < (m : Int)) = true := decide_eq_true (by omega)
          obtain ⟨hx1, hx2⟩ := hnx (by have := HNK.out; omega)
          have HR9 := Lib.hid (fun w' hb => HRM.out (L.getD nk 0) (by rw [← HNK.out]; omega) (fun q h1 _ => by rw [HNK.out]; exact h1) w' hb)
          obtain ⟨bw3, ow3, hAw3, -, -, y7⟩ := HXR.out nk hnm
          cases hAw3
          rw [HNK.out] at hx1 hx2
          generalize L.getD nk 0 = nx at *
          have hmin : min (nx : Int) (a.e.length : Int) = (nx : Int) := by omega
          have q2 : (nk : Int) < (m : Int) := by omega
          have q3 : (0 : Int) ≤ (nk : Int) := by omega
          clear hnx HRM
          go_wp2_with fail
          go_quiet (fail)
          go_wp2_with (go_at_call 121; rw [HF.out]; refine (HR9.out _ (below_dn2 BX.out _)).mono ?_; rintro e w5 ⟨rfl, hb5⟩; have B5 := Lib.hid ((below_dn2 BX.out _).trans (hb5.mono BX.out.size)); clear hb5)
          exact ⟨⟨nk, by omega, by go_num, B5.out⟩, by simp [intOf]; omega⟩
        · have d8 : decide ((nk : Int) < (m : Int)) = false := decide_eq_false (by omega)
          have HR9 := Lib.hid (fun w' hb => HRM.out a.e.length (Nat.le_refl _) (fun q _ h2 => absurd h2 (by have := HNK.out; omega)) w' hb)
          clear hnx HRM
          go_wp2_with fail
          go_quiet (fail)
          go_wp2_with (go_at_call 121; rw [HF.out]; refine (HR9.out _ (below_dn2 BX.out _)).mono ?_; rintro e w5 ⟨rfl, hb5⟩; have B5 := Lib.hid ((below_dn2 BX.out _).trans (hb5.mono BX.out.size)); clear hb5)
          exact ⟨⟨nk, by omega, by go_num, B5.out⟩, by simp [intOf]; omega⟩
      · obtain ⟨j, rfl⟩ : ∃ j, k = j + 1 := ⟨k - 1, by omega⟩
        obtain ⟨hx7, hxf, hji, hjl⟩ := hcpy j rfl
        obtain ⟨bw2, ow2, hAw2, -, -, y8⟩ := HXR.out j (by omega)
        cases hAw2
        obtain ⟨bw4, ow4, hAw4, -, -, y6w⟩ := hr8 j rfl
        cases hAw4
        obtain ⟨b2, off2, hA2, -, -, hac2⟩ := HXV.out (L.getD j 0) hjl
        cases hA2
        obtain ⟨-, -, z2, -, -, -, -⟩ := hac2
        rw [← hxf] at z2
        generalize L.getD j 0 = i2 at *
        subst hx7
        have e2 : decide ((0 : Int) < (j : Int) + 1) = true := decide_eq_true (by omega)
        have e3 : decide ((i : Int) ≤ (i2 : Int)) = false := decide_eq_false (by omega)
        have e4 : (xf != xf) = false := by simp
        have e5 : (((j : Int) + 1) == 0) = false := beq_eq_false_iff_ne.2 (by omega)
        have hw0 : IntKind.i64.wrap ((j : Int) + 1 - 1) = (j : Int) := by rw [show (j : Int) + 1 - 1 = (j : Int) by omega]; exact IntWalk.i64_in _ (by omega)
        have hw1 : IntKind.i64.wrap (j : Int) = (j : Int) := IntWalk.i64_in _ (by omega)
        have j0 : (0 : Int) ≤ (j : Int) := by omega
        have j1 : (j : Int) < (m : Int) := by omega
        have q0 : (0 : Int) ≤ (i2 : Int) := by omega
        have q1 : (i2 : Int) < (a.e.length : Int) := by omega
        clear hput hcpy hxf hr8
        have HQ1 := Lib.hid (show j + 1 + 1 = nk from HNK.out)
        by_cases hnm : nk < m
        · have d8 : decide ((nk : Int) < (m : Int)) = true := decide_eq_true (by omega)
          obtain ⟨hx1, hx2⟩ := hnx (by have := HNK.out; omega)
          have HR9 := Lib.hid (fun w' hb => HRM.out (L.getD nk 0) (by rw [← HNK.out]; omega) (fun q h1 _ => by rw [HNK.out]; exact h1) w' hb)
          obtain ⟨bw3, ow3, hAw3, -, -, y7⟩ := HXR.out nk hnm
          cases hAw3
          rw [HNK.out] at hx1 hx2
          simp only [← HQ1.out] at y7 hx1 hx2 HR9
          have q4 : (j : Int) + 1 + 1 < (m : Int) := by have := HQ1.out; omega
          generalize L.getD (j + 1 + 1) 0 = nx at *
          have hmin : min (nx : Int) (a.e.length : Int) = (nx : Int) := by omega
          have q2 : (nk : Int) < (m : Int) := by omega
          have q3 : (0 : Int) ≤ (nk : Int) := by omega
          clear hnx HRM
          go_wp2_with fail
          go_quiet (fail)
          go_wp2_with (go_at_call 121; rw [HF.out]; refine (HR9.out _ (below_dn2 BX.out _)).mono ?_; rintro e w5 ⟨rfl, hb5⟩; have B5 := Lib.hid ((below_dn2 BX.out _).trans (hb5.mono BX.out.size)); clear hb5)
          exact ⟨⟨nk, by omega, by go_num, B5.out⟩, by simp [intOf]; omega⟩
        · have d8 : decide ((nk : Int) < (m : Int)) = false := decide_eq_false (by omega)
          have HR9 := Lib.hid (fun w' hb => HRM.out a.e.length (Nat.le_refl _) (fun q _ h2 => absurd h2 (by have := HNK.out; omega)) w' hb)
          clear hnx HRM
          go_wp2_with fail
          go_quiet (fail)
          go_wp2_with (go_at_call 121; rw [HF.out]; refine (HR9.out _ (below_dn2 BX.out _)).mono ?_; rintro e w5 ⟨rfl, hb5⟩; have B5 := Lib.hid ((below_dn2 BX.out _).trans (hb5.mono BX.out.size)); clear hb5)
          exact ⟨⟨nk, by omega, by go_num, B5.out⟩, by simp [intOf]; omega⟩
    · obtain rfl : k = m := by omega
      obtain ⟨j, rfl⟩ : ∃ j, k = j + 1 := ⟨k - 1, by omega⟩
      obtain ⟨c0, c1⟩ := geCells MQ.out
      have hfin := HW.out.fin
      have hlj := HW.out.lt j (by rw [HML.out]; omega)
      rw [HML.out, show j + 1 - 1 = j by omega] at hfin
      obtain ⟨bw, ow, hAw, -, -, y9⟩ := HRV.out j (by omega)
      subst hAw
      obtain ⟨b, off, hA, -, hbk, hac⟩ := HEV.out _ hlj.1
      have hA : A = some ⟨b, off, none⟩ := hA
      subst hA
      obtain ⟨-, -, y2, -, -, -, -⟩ := hac
      rw [hfin] at y2
      have hl := hlj.1
      generalize L.getD j 0 = i at *
      have hw0 : IntKind.i64.wrap ((j : Int) + 1 - 1) = (j : Int) := by rw [show (j : Int) + 1 - 1 = (j : Int) by omega]; exact IntWalk.i64_in _ (by omega)
      have hw1 : IntKind.i64.wrap (j : Int) = (j : Int) := IntWalk.i64_in _ (by omega)
      have j0 : (0 : Int) ≤ (j : Int) := by omega
      have j1 : (j : Int) < (j : Int) + 1 := by omega
      have i0 : (0 : Int) ≤ (i : Int) := by omega
      have i1 : (i : Int) < (a.e.length : Int) := by omega
      have e9 : ((P : Int) == (P : Int)) = true := by simp
      have HBF := Lib.hid (HB1.out.trans (hbl.mono HB1.out.size))
      clear hbl hfin hlj
      go_wp2_with fail
      go_quiet (fail)
      go_wp2_with fail
      go_ret
      exact ⟨by first | rfl | simp, below_dn2 HBF.out _⟩

end Go.Proofs.YtgknfkmojhganaaGreat.Di

namespace Go.Proofs.YtgknfkmojhganaaGreat.Di
open Go.RowKit
open Go.Proofs.YtgknfkmojhganaaGreat.Tp
set_option linter.unusedVariables false
set_option linter.unusedSimpArgs false

/-! Between events nothing begins. -/
/-- At two times the same has happened. -/
structure SameT (d : Dy) (a : Es) (T r : Nat) : Prop where
  le : T ≤ r
  h1 : ∀ j, j < d.e.length → ((eg d j).t ≤ r ↔ (eg d j).t ≤ T)
  h2 : ∀ j, j < a.e.length → ((ag a.e j).t ≤ (r : Int) ↔ (ag a.e j).t ≤ (T : Int))
theorem dmk_sameT {d : Dy} {T r p q : Nat} : ∀ k, (∀ j, j < k → ((eg d j).t ≤ r ↔ (eg d j).t ≤ T)) → dmk d r p q k = dmk d T p q k
  | 0, _ => rfl
  | k + 1, h => by
    have ih := dmk_sameT (p := p) (q := q) k (fun j hj => h j (by omega))
    have h0 := h k (by omega)
    rw [dmk, dmk, ih]
    have e : hitm (eg d k) r p q = hitm (eg d k) T p q := by
      apply Bool.eq_iff_iff.2
      rw [hitm_iff, hitm_iff]
      constructor
      · rintro ⟨h1, h2⟩; exact ⟨h0.1 h1, h2⟩
      · rintro ⟨h1, h2⟩; exact ⟨h0.2 h1, h2⟩
    simp only [e]
theorem upB_sameT {d : Dy} {a : Es} {T r : Nat} (h : SameT d a T r) : upB d r = upB d T := by
  have hd : dm d r = dm d T := by
    funext p q
    unfold dm
    exact dmk_sameT _ h.h1
  funext p q
  have e : Rc d r p q ↔ Rc d T p q := by
    show Reach (dm d r) d.k.length p q ↔ Reach (dm d T) d.k.length p q
    rw [hd]
  exact Bool.eq_iff_iff.2 (by rw [upB_iff, upB_iff, e])
theorem wy_sameT {l : List Ac} {T r c : Int} : ∀ k, (∀ j, j < k → ((ag l j).t ≤ r ↔ (ag l j).t ≤ T)) → wy l c r k = wy l c T k
  | 0, _ => rfl
  | k + 1, h => by
    have ih := wy_sameT (c := c) k (fun j hj => h j (by omega))
    have h0 := h k (by omega)
    rw [wy, wy, ih]
    by_cases e : (ag l k).t ≤ r
    · rw [if_neg (by omega), if_neg (by have := h0.1 e; omega)]
    · rw [if_pos (by omega), if_pos (by have := fun h => e (h0.2 h); omega)]
theorem gr_sameT {l : List Ac} {T r p q : Int} : ∀ k, (∀ j, j < k → ((ag l j).t ≤ r ↔ (ag l j).t ≤ T)) → gr l p r q k = gr l p T q k
  | 0, _ => rfl
  | k + 1, h => by
    have ih := gr_sameT (p := p) (q := q) k (fun j hj => h j (by omega))
    have h0 := h k (by omega)
    rw [gr, gr, ih]
    have e : (r < (ag l k).t ∨ (ag l k).p ≠ p) ↔ (T < (ag l k).t ∨ (ag l k).p ≠ p) := by omega
    by_cases c : r < (ag l k).t ∨ (ag l k).p ≠ p
    · rw [if_pos c, if_pos (e.1 c)]
    · rw [if_neg c, if_neg (fun h => c (e.2 h))]
theorem lk_sameT {l : List Ac} {T r p : Int} (hle : T ≤ r) : ∀ k, (∀ j, j < k → ((ag l j).t ≤ r ↔ (ag l j).t ≤ T)) → (lk l p r k).isSome = true → (lk l p T k).isSome = true
  | 0, _, h => h
  | k + 1, hq, h => by
    have ih := lk_sameT (p := p) hle k (fun j hj => hq j (by omega))
    have h0 := hq k (by omega)
    rw [lk] at h ⊢
    by_cases c1 : r < (ag l k).t ∨ (ag l k).p ≠ p
    · rw [if_pos c1] at h
      rw [if_pos (show T < (ag l k).t ∨ (ag l k).p ≠ p by omega)]
      exact ih h
    · rw [if_neg c1] at h
      rw [if_neg (show ¬ (T < (ag l k).t ∨ (ag l k).p ≠ p) by omega)]
      by_cases c2 : (ag l k).k = 4
      · rw [if_pos c2] at h; cases h
      · rw [if_neg c2] at h ⊢
        by_cases c3 : (ag l k).k = 3 ∧ r < (ag l k).u
        · rw [if_pos (show (ag l k).k = 3 ∧ T < (ag l k).u by omega)]; rfl
        · rw [if_neg c3] at h
          split
          · rfl
          · exact ih h
theorem xwB_sameT {d : Dy} {a : Es} (ha : Eok a) {n : Nat} (hn : a.n = (n : Int)) {c p : Int} {T r : Nat} (h : SameT d a T r) (hx : xwB d a n c p r = true) : xwB d a n c p T = true := by
  unfold xwB at hx ⊢
  rw [any_iff] at hx ⊢
  obtain ⟨P, hP, hx⟩ := hx
  refine ⟨P, hP, ?_⟩
  rw [Bool.and_eq_true] at hx ⊢
  have hle : (T : Int) ≤ (r : Int) := by have := h.le; omega
  have hlk : (lkA a.e (P : Int) (r : Int)).isSome = true → (lkA a.e (P : Int) (T : Int)).isSome = true := lk_sameT hle _ h.h2
  refine ⟨?_, ?_⟩
  · have h1 := hx.1
    unfold wB wyA at h1 ⊢
    rw [wy_sameT (T := (T : Int)) _ h.h2] at h1
    exact h1
  · have h2 := hx.2
    unfold xB at h2 ⊢
    split
    · rename_i e
      rw [if_pos e] at h2
      exact hlk h2
    · rename_i e
      rw [if_neg e] at h2
      unfold mayB at h2 ⊢
      rw [Bool.and_eq_true, Bool.or_eq_true] at h2 ⊢
      refine ⟨h2.1, ?_⟩
      rcases h2.2 with h3 | h3
      · exact .inl (hlk h3)
      · refine .inr ?_
        rw [any_iff] at h3 ⊢
        obtain ⟨q, hq, h3⟩ := h3
        refine ⟨q, hq, ?_⟩
        unfold keyB at h3 ⊢
        rw [Bool.and_eq_true] at h3 ⊢
        rw [upB_sameT h] at h3
        refine ⟨h3.1, ?_⟩
        have h4 := h3.2
        rw [gdB_yes ⟨ha, by omega, by omega⟩] at h4 ⊢
        unfold grA at h4 ⊢
        rw [gr_sameT (T := (T : Int)) _ h.h2] at h4
        exact h4
/-- The last time of an event up to a time, if there is one. -/
theorem last_time {d : Dy} {a : Es} (hea : Eok a) (r : Nat) : (∃ T, TiM d a T ∧ SameT d a T r) ∨ ((∀ j, j < d.e.length → r < (eg d j).t) ∧ ∀ j, j < a.e.length → (r : Int) < (ag a.e j).t) := by
  induction r with
  | zero =>
    by_cases hx : TiM d a 0
    · exact .inl ⟨0, hx, Nat.le_refl _, fun j _ => Iff.rfl, fun j _ => Iff.rfl⟩
    · refine .inr ⟨fun j hj => ?_, fun j hj => ?_⟩
      · by_cases e : (eg d j).t = 0
        · exact absurd (.inr ⟨j, hj, e⟩) hx
        · omega
      · have := (hea.e j hj).1
        by_cases e : (ag a.e j).t = ((0 : Nat) : Int)
        · exact absurd (.inl ⟨j, hj, e⟩) hx
        · omega
  | succ r ih =>
    by_cases hx : TiM d a (r + 1)
    · exact .inl ⟨r + 1, hx, Nat.le_refl _, fun j _ => Iff.rfl, fun j _ => Iff.rfl⟩
    · have n1 : ∀ j, j < d.e.length → (eg d j).t ≠ r + 1 := fun j hj e => hx (.inr ⟨j, hj, e⟩)
      have n2 : ∀ j, j < a.e.length → (ag a.e j).t ≠ ((r + 1 : Nat) : Int) := fun j hj e => hx (.inl ⟨j, hj, e⟩)
      rcases ih with ⟨T, h1, h2⟩ | ⟨h1, h2⟩
      · refine .inl ⟨T, h1, by have := h2.le; omega, fun j hj => ?_, fun j hj => ?_⟩
        · have := h2.h1 j hj; have := n1 j hj; omega
        · have := h2.h2 j hj; have := n2 j hj; omega
      · refine .inr ⟨fun j hj => ?_, fun j hj => ?_⟩
        · have := h1 j hj; have := n1 j hj; omega
        · have := h2 j hj; have := n2 j hj; omega
theorem wy_none {l : List Ac} {r c : Int} : ∀ k, (∀ j, j < k → r < (ag l j).t) → ∀ q, wy l c r k q = []
  | 0, _, _ => rfl
  | k + 1, h, q => by
    rw [wy, if_pos (h k (by omega))]
    exact wy_none k (fun j hj => h j (by omega)) q
/-- Who can read at a time could read at a time of an event up to it. -/
theorem xwB_first {d : Dy} {a : Es} (ha : Eok a) {n : Nat} (hn : a.n = (n : Int)) {c p : Int} {r : Nat} (hx : xwB d a n c p r = true) : ∃ T, T ≤ r ∧ TiM d a T ∧ xwB d a n c p T = true := by
  rcases last_time (d := d) ha r with ⟨T, h1, h2⟩ | ⟨h1, h2⟩
  · exact ⟨T, h2.le, h1, xwB_sameT ha hn h2 hx⟩
  · unfold xwB at hx
    rw [any_iff] at hx
    obtain ⟨P, hP, hx⟩ := hx
    rw [Bool.and_eq_true] at hx
    have h3 := hx.1
    unfold wB wyA at h3
    rw [wy_none _ h2] at h3
    cases h3
/-- What the search through all times finds. -/
theorem first_some {d : Dy} {a : Es} (ha : Eok a) {n : Nat} (hn : a.n = (n : Int)) {c p : Int} {T : Nat} (h : siF d a n c p = some T) : xwB d a n c p T = true ∧ ∀ r, r < T → xwB d a n c p r = false := by
  obtain ⟨h1, h2, h3⟩ := siF_is h
  refine ⟨h2, fun r hr => ?_⟩
  rw [← Bool.not_eq_true]
  intro hx
  obtain ⟨T', h4, h5, h6⟩ := xwB_first ha hn hx
  have := h3 T' h5 h6
  omega
theorem first_none {d : Dy} {a : Es} (ha : Eok a) {n : Nat} (hn : a.n = (n : Int)) {c p : Int} (h : siF d a n c p = none) (r : Nat) : xwB d a n c p r = false := by
  rw [← Bool.not_eq_true]
  intro hx
  obtain ⟨T', h4, h5, h6⟩ := xwB_first ha hn hx
  rw [siF_none h T' h5] at h6
  cases h6
/-- The list of the first ones begins the list of all. -/
theorem exL_pre {d : Dy} {a : Es} {n : Nat} {c : Int} (k : Nat) : ∀ m, ∃ R, exL d a n c (k + m) = exL d a n c k ++ R
  | 0 => ⟨[], by rw [List.append_nil]; rfl⟩
  | m + 1 => by
    obtain ⟨R, h⟩ := exL_pre k m
    cases e : siF d a n c (((k + m : Nat) : Int) - 1) with
    | none => exact ⟨R, by rw [show k + (m + 1) = k + m + 1 by omega, exL_none e, h]⟩
    | some T => exact ⟨R ++ [(((k + m : Nat) : Int) - 1, T)], by rw [show k + (m + 1) = k + m + 1 by omega, exL_some e, h, List.append_assoc]⟩
theorem exL_at {d : Dy} {a : Es} {n : Nat} {c : Int} {k T m : Nat} (hk : k < m) (h : siF d a n c ((k : Int) - 1) = some T) : (exL d a n c k).length < (exL d a n c m).length ∧ xg (exL d a n c m) (exL d a n c k).length = ((k : Int) - 1, T) := by
  obtain ⟨R, hR⟩ := exL_pre (d := d) (a := a) (n := n) (c := c) (k + 1) (m - (k + 1))
  rw [show k + 1 + (m - (k + 1)) = m by omega, exL_some h] at hR
  rw [hR]
  refine ⟨by simp, ?_⟩
  unfold xg
  rw [List.append_assoc, List.getD_eq_getElem?_getD, List.getElem?_append_right (Nat.le_refl _)]
  simp

end Go.Proofs.YtgknfkmojhganaaGreat.Di

namespace Go.Proofs.YtgknfkmojhganaaGreat.Di
open Go.RowKit
open Go.Proofs.YtgknfkmojhganaaGreat.Tp
set_option linter.unusedVariables false
set_option linter.unusedSimpArgs false

set_option maxRecDepth 100000 in
set_option maxHeartbeats 1000000 in
/-- How many events have happened. -/
theorem happened_gen (a : Es) (v : Ve) (t : Int) (m : Nat) (w : World) (h : EL w 0 a v) (hl : a.e.length ≤ 120) (hm : m ≤ a.e.length) (ht : ∀ j, j < a.e.length → ((ag a.e j).t ≤ t ↔ j < m)) :
    Calls Tryz.prog 72 #[.agg (ge a v), .int .i64 t] w fun e w' => e = .returned (.int .i64 (m : Int)) ∧ Below w.heap.size w w' := by
  obtain ⟨A, vc⟩ := v
  have HT := Lib.hid ht
  have hb := box_below w (.cells (ge a ⟨A, vc⟩) 28)
  have HB0 := Lib.hid hb
  have R0 := heap_alloc_new w (.cells (ge a ⟨A, vc⟩) 28)
  obtain ⟨g0, g1⟩ := geCells R0
  have HEX := Lib.hid (Row.below h hb)
  clear h ht hb R0
  go_enter Tryz.func72, Tryz.ntmps72
  go_wp2_with fail
  go_loopw [5] (fun ii wr => ∃ k : Nat, k ≤ m ∧ ii = .int .i64 (k : Int) ∧ wr = w.alloc (.cells (ge a ⟨A, vc⟩) 28)) (fun ii _ => m - (intOf ii).toNat)
  case atStart => exact ⟨0, by omega, rfl, rfl⟩
  case round =>
    obtain ⟨k, hk, rfl, rfl⟩ := hrel
    by_cases hlt : k < a.e.length
    · obtain ⟨b, off, hA, -, hbk, hac⟩ := HEX.out.ac hlt
      have hA : A = some ⟨b, off, none⟩ := hA
      subst hA
      obtain ⟨y0, -⟩ := hac
      have dk : decide ((k : Int) < (a.e.length : Int)) = true := decide_eq_true (by omega)
      have i0 : (0 : Int) ≤ (k : Int) := by omega
      have i1 : (k : Int) < (a.e.length : Int) := by omega
      have htk := HT.out k hlt
      generalize ag a.e k = x at *
      by_cases hkm : k < m
      · have dt : decide (x.t ≤ t) = true := decide_eq_true (htk.2 hkm)
        clear htk
        go_wp2_with fail
        exact ⟨⟨k + 1, by omega, by go_num, by first | rfl | trivial⟩, by simp [intOf]; omega⟩
      · obtain rfl : k = m := by omega
        have dt : decide (x.t ≤ t) = false := decide_eq_false (fun h => hkm (htk.1 h))
        clear htk
        go_wp2_with fail
        go_ret
        exact ⟨by first | rfl | simp, HB0.out⟩
    · have dk : decide ((k : Int) < (a.e.length : Int)) = false := decide_eq_false (by omega)
      obtain rfl : k = m := by omega
      go_wp2_with fail
      go_ret
      exact ⟨by first | rfl | simp, HB0.out⟩
theorem nwB_hap {a : Es} (hok : Eok a) {t : Int} {m : Nat} (hm : m ≤ a.e.length) (ht : ∀ j, j < a.e.length → ((ag a.e j).t ≤ t ↔ j < m)) (c : Int) (q : Nat) : nwB a c t m q = wB a c t q := by
  unfold nwB wB wyA
  obtain ⟨i, hi⟩ : ∃ i, a.e.length = m + i := ⟨a.e.length - m, by omega⟩
  rw [hi, wy_skip a.e c t m i (fun j h1 h2 => by
    have := ht j (by omega)
    omega)]
set_option maxRecDepth 100000 in
set_option maxHeartbeats 4000000 in
/-- The reference's Where. -/
theorem xwher_any (a : Es) (v : Ve) (c t : Int) (n : Nat) (w : World) (h : EL w 0 a v) (hok : Eok a) (hn : a.n = (n : Int)) (hc : 0 ≤ c ∧ c < 64) (hvc : a.e.length ≤ v.c) :
    Calls Tryz.prog 28 #[.agg (ge a v), .int .i64 c, .int .i64 t] w (SmPost (wB a c t) n w) := by
  have hl := hok.m
  have hn16 := hok.n16
  obtain ⟨m, hm, hmt⟩ := hok.hap t
  have hb0 := box_below w (.cells (ge a v) 28)
  have HB0 := Lib.hid hb0
  have HR0 := Lib.hid (heap_alloc_new w (.cells (ge a v) 28))
  obtain ⟨c0, c1⟩ := geCells HR0.out
  have HRI := Lib.hid (right_yes a v c _ (vay_of (Row.below h hb0) hok) hc)
  have HHA := Lib.hid (fun w' (hb : Below w.heap.size w w') => happened_gen a v t m w' (Row.below h hb) hl hm hmt)
  have hnw := fun w' (hb : Below w.heap.size w w') => xnow_any a v c t m n w' (Row.below h hb) hok hn hm (fun j hj => (hmt j (by omega)).2 hj) hvc
  unfold NwPost at hnw
  have hq := nwB_hap hok hm hmt c
  have HNQ := Lib.hid hq
  have HNW := Lib.hid hnw
  have HF := Lib.hid (show (#[.int .i64 a.n, .slice v.A a.e.length v.c] : Array Value) = ge a v from rfl)
  obtain ⟨j0, hj1, hy0, hy1, hy2⟩ := info_parts zinfo3
  have HJ := Lib.hid hj1
  have HJ0 := Lib.hid hy0
  have HJ1 := Lib.hid hy1
  have HJ2 := Lib.hid hy2
  have HN := Lib.hid hn
  have hn6 : n ≤ 16 := by omega
  simp only [ge] at HHA HNW
  unfold SmPost
  generalize wB a c t = q at *
  clear h hok hn hc hvc hb0 hnw hq hmt hj1 hy0 hy1 hy2
  go_enter Tryz.func28, Tryz.ntmps28
  go_upto_region 4 with (go_at_call 70; rw [HF.out]; refine HRI.out.mono ?_; rintro e w1 ⟨rfl, hb1⟩; have B1 := Lib.hid (HB0.out.trans (hb1.mono HB0.out.size)); have M1 := Lib.hid ((hb1.block _ (row_lt HR0.out)).trans HR0.out); clear hb1 c0 c1)
  have hkp : ∀ w', Below w1.heap.size w1 w' → w'.cell? ⟨w.heap.size, 0, none⟩ = some (.int .i64 a.n) ∧ w'.cell? ⟨w.heap.size, 1, none⟩ = some (.slice v.A a.e.length v.c) ∧ Below w1.heap.size w1 w' := fun w' hb => have a1 := geCells ((hb.block _ (row_lt M1.out)).trans M1.out); ⟨a1.1, a1.2, hb⟩
  have HKP := Lib.hid hkp
  have HBW := Lib.hid (fun w' (hb : Below w1.heap.size w1 w') => B1.out.trans (hb.mono B1.out.size))
  have bz1 : Below w1.heap.size w1 w1.drew := (Below.refl w1.heap.size w1).drew
  clear hkp
  go_region_held3 (fun w' => w'.cell? ⟨w.heap.size, 0, none⟩ = some (.int .i64 a.n) ∧ w'.cell? ⟨w.heap.size, 1, none⟩ = some (.slice v.A a.e.length v.c) ∧ Below w1.heap.size w1 w')
    (first | (with_reducible assumption) | (with_reducible exact HKP.out _ (Below.refl _ _)) | (with_reducible exact HKP.out _ bz1) | (with_reducible exact HKP.out _ ba) | (with_reducible exact HKP.out _ bb))
    (first
      | (go_at_call 72; (with_reducible refine (HHA.out _ (HBW.out _ ?_)).mono ?_); (go_split_ands; with_reducible assumption); rintro e wa1 ⟨rfl, hbb⟩; go_split_ands; have ba : Below w1.heap.size w1 wa1 := Below.trans (by with_reducible assumption) (hbb.mono (Below.size (by with_reducible assumption))); clear hbb)
      | (go_at_call 71; (with_reducible refine (HNW.out _ (HBW.out _ ?_)).mono ?_); (go_split_ands; with_reducible assumption); rintro e W2 ⟨G, cc, rfl, hown2, hbb⟩; go_split_ands; have bb : Below w1.heap.size w1 W2 := Below.trans (by with_reducible assumption) (hbb.mono (Below.size (by with_reducible assumption))); have ob := own_base hown2 (show w1.heap.size ≤ _ from (Below.size (by with_reducible assumption))); clear hbb hown2))
  go_split_ands
  have OG := Lib.hid (show W2.ownsRow w1.heap.size 4 1 (.slice (some ⟨G, 0, none⟩) n cc) n (rl (fun j => Value.bool (q j)) n) from by rw [← show (fun j => Value.bool (nwB a c t m j)) = (fun j => Value.bool (q j)) from funext fun j => by rw [HNQ.out j]]; exact ob)
  have B2 := Lib.hid (show Below w1.heap.size w1 W2 from bb)
  clear ob ba bb bz1
  go_wp2_with fail
  go_loopw [7, 21] (fun ov ii wr => ∃ (k : Nat) (A' : Option Addr) (c' : Nat), k ≤ n ∧ ov = .slice A' (cnt q k) c' ∧ ii = .int .i64 (k : Int) ∧ wr.ownsRow W2.heap.size 3 1 (.slice A' (cnt q k) c') (cnt q k) (iv (idx q k)) ∧ Below W2.heap.size W2 wr) (fun _ ii _ => n - (intOf ii).toNat)
  case atStart => exact ⟨0, none, 0, by omega, rfl, rfl, own_nil _ _ _ _, Below.refl _ _⟩
  case round =>
    obtain ⟨k, A', c', hk, rfl, rfl, hown, hbl⟩ := hrel
    have HOW := Lib.hid hown
    have HBL := Lib.hid hbl
    have hcn := cnt_le q k
    clear hown hbl
    by_cases hlt : k < n
    · have i0 : (0 : Int) ≤ (k : Int) := by omega
      have i1 : (k : Int) < (n : Int) := by omega
      have hcl := (own_put (u := .bool true) (own_below OG.out HBL.out) hlt).1
      rw [rl_at _ _ _ hlt] at hcl
      have hs3 := HBL.out.size
      cases hqk : q k with
      | true =>
        rw [hqk] at hcl
        have HI := Lib.hid (idx_tt hqk)
        have HC := Lib.hid (cnt_tt hqk)
        have HSV := Lib.hid (iv_snoc (idx q k) k)
        clear hqk
        go_wp2_with (at_builtin; refine wpList_append_own _ rfl (.tmp 27) (.tmp 29) 22 rfl W2.heap.size 3 j0 (.int .i64 0) 1 8 Tryz.underlying22 HJ.out HJ0.out HJ1.out HJ2.out rfl (by decide) _ (cnt q k) (iv (idx q k)) rfl (HOW.out.alloc _) ⟨wr.heap.size, 0, none⟩ 1 1 [.int .i64 (k : Int)] rfl rfl (World.news_of_block (heap_alloc_new wr _)) (by simp [Value.oneCell']) (by unfold maxLen; omega) (by omega) (by simp; omega) ?_; intro v' w6 hown6 hgr _; obtain ⟨A6, c6, rfl⟩ := own_form hown6; have O6 := Lib.hid hown6; have B6 := Lib.hid ((HBL.out.trans ((box_below _ _).mono HBL.out.size)).grown hgr (by simp; omega) (fun g e => (HOW.out.lt g e).1)); clear hown6 hgr)
        exact ⟨⟨k + 1, A6, c6, by omega, by rw [HC.out], by go_num, by rw [HC.out, HI.out, HSV.out]; exact O6.out, B6.out⟩, by simp [intOf]; omega⟩
      | false =>
        rw [hqk] at hcl
        have HI := Lib.hid (idx_ff hqk)
        have HC := Lib.hid (cnt_ff hqk)
        clear hqk
        go_wp2_with fail
        exact ⟨⟨k + 1, A', c', by omega, by rw [HC.out], by go_num, by rw [HC.out, HI.out]; exact HOW.out, HBL.out⟩, by simp [intOf]; omega⟩
    · obtain rfl : k = n := by omega
      go_wp2_with fail
      go_ret
      exact ⟨A', c', rfl, own_base HOW.out (by have := B1.out.size; have := B2.out.size; omega), B1.out.trans ((B2.out.trans (HBL.out.mono B2.out.size)).mono B1.out.size)⟩

end Go.Proofs.YtgknfkmojhganaaGreat.Di

namespace Go.Proofs.YtgknfkmojhganaaGreat.Di
open Go.RowKit
open Go.Proofs.YtgknfkmojhganaaGreat.Tp
set_option linter.unusedVariables false
set_option linter.unusedSimpArgs false

theorem Lkp.rb {d : Dy} {a : Es} {n : Nat} {c : Int} {T P q : Nat} {lk gk : Int} {L : List Nat} (h : Lkp d a n c (q : Int) T P lk gk L) : rB d q = true := by
  have h1 := h.may
  unfold xB at h1
  rw [if_neg (by omega)] at h1
  have h2 : mayB d a q P T = true := h1
  unfold mayB at h2
  rw [Bool.and_eq_true] at h2
  exact h2.1
set_option maxRecDepth 100000 in
set_option maxHeartbeats 8000000 in
/-- The product finds that its leak proves. -/
theorem xprov_any (d : Dy) (v : Vd) (a : Es) (u : Ve) (n : Nat) (c p : Int) (T P : Nat) (lk gk : Int) (L : List Nat) (W : Option Addr) (cw : Nat) (A : Option Addr) (k : Nat) (w : World) (h : DL w 0 d v) (hok : Ok d) (he : EL w 0 a u) (hea : Eok a) (hn : a.n = (n : Int)) (hc : 0 ≤ c ∧ c < 64) (hp : -1 ≤ p) (hcap : a.e.length ≤ u.c)
    (hL : Lkp d a n c p T P lk gk L) (hW : Row w 0 1 W (wyA a.e c (T : Int) (P : Int)).length (iv (wyA a.e c (T : Int) (P : Int)))) (hk : L.length ≤ k) (hA : Row w 0 1 A L.length (iv L)) :
    Calls Tryz.prog 31 #[.agg (gd d v), .agg (ge a u), .int .i64 c, .agg #[.int .i64 p, .int .i64 (T : Int)], .agg (lkc W (wyA a.e c (T : Int) (P : Int)).length cw (P : Int) (T : Int) lk gk A L.length k)] w fun e w' => e = .returned (.bool true) ∧ Below w.heap.size w w' := by
  have hT := tiM_le hok hea (siF_is hL.si).1
  have hwl := wy_len a.e c (T : Int) a.e.length (P : Int)
  have hm := hea.m
  have hwn : wyA a.e c (T : Int) (P : Int) ≠ [] := emp_iff.1 hL.is
  have hw0 : 0 < (wyA a.e c (T : Int) (P : Int)).length := List.length_pos_iff.2 hwn
  obtain ⟨W4, hW4⟩ : ∃ W4, (((w.alloc (.cells (gd d v) 25)).alloc (.cells (ge a u) 28)).alloc (.cells #[.int .i64 p, .int .i64 (T : Int)] 70)).alloc (.cells (lkc W (wyA a.e c (T : Int) (P : Int)).length cw (P : Int) (T : Int) lk gk A L.length k) 66) = W4 := ⟨_, rfl⟩
  have hs1 : (w.alloc (.cells (gd d v) 25)).heap.size = w.heap.size + 1 := by simp
  have hs2 : ((w.alloc (.cells (gd d v) 25)).alloc (.cells (ge a u) 28)).heap.size = w.heap.size + 1 + 1 := by simp
  have hs3 : (((w.alloc (.cells (gd d v) 25)).alloc (.cells (ge a u) 28)).alloc (.cells #[.int .i64 p, .int .i64 (T : Int)] 70)).heap.size = w.heap.size + 1 + 1 + 1 := by simp
  have hb1 := box_below w (.cells (gd d v) 25)
  have hb2 := hb1.trans ((box_below _ (.cells (ge a u) 28)).mono hb1.size)
  have hb3 := hb2.trans ((box_below _ (.cells #[.int .i64 p, .int .i64 (T : Int)] 70)).mono hb2.size)
  have hb4 := hb3.trans ((box_below _ (.cells (lkc W (wyA a.e c (T : Int) (P : Int)).length cw (P : Int) (T : Int) lk gk A L.length k) 66)).mono hb3.size)
  have r0 := (heap_alloc_old _ (.cells (lkc W (wyA a.e c (T : Int) (P : Int)).length cw (P : Int) (T : Int) lk gk A L.length k) 66) (by rw [hs3]; omega)).trans ((heap_alloc_old _ (.cells #[.int .i64 p, .int .i64 (T : Int)] 70) (by rw [hs2]; omega)).trans ((heap_alloc_old _ (.cells (ge a u) 28) (by rw [hs1]; omega)).trans (heap_alloc_new w (.cells (gd d v) 25))))
  have r1 := (heap_alloc_old _ (.cells (lkc W (wyA a.e c (T : Int) (P : Int)).length cw (P : Int) (T : Int) lk gk A L.length k) 66) (by rw [hs3, hs1]; omega)).trans ((heap_alloc_old _ (.cells #[.int .i64 p, .int .i64 (T : Int)] 70) (by rw [hs2, hs1]; omega)).trans (heap_alloc_new (w.alloc (.cells (gd d v) 25)) (.cells (ge a u) 28)))
  have r2 := (heap_alloc_old _ (.cells (lkc W (wyA a.e c (T : Int) (P : Int)).length cw (P : Int) (T : Int) lk gk A L.length k) 66) (by rw [hs3, hs2]; omega)).trans (heap_alloc_new ((w.alloc (.cells (gd d v) 25)).alloc (.cells (ge a u) 28)) (.cells #[.int .i64 p, .int .i64 (T : Int)] 70))
  have r3 := heap_alloc_new (((w.alloc (.cells (gd d v) 25)).alloc (.cells (ge a u) 28)).alloc (.cells #[.int .i64 p, .int .i64 (T : Int)] 70)) (.cells (lkc W (wyA a.e c (T : Int) (P : Int)).length cw (P : Int) (T : Int) lk gk A L.length k) 66)
  rw [hs1] at r1
  rw [hs2] at r2
  rw [hs3] at r3
  rw [hW4] at hb4 r0 r1 r2 r3
  have HB := Lib.hid hb4
  have R0 := Lib.hid r0
  have R1 := Lib.hid r1
  have R2 := Lib.hid r2
  have R3 := Lib.hid r3
  have HCK := Lib.hid (xcheck_ok d v a u c W4 (h.below hb4) hok (Row.below he hb4) hea hc)
  have HCP := Lib.hid (fun w' (hb : Below w.heap.size w w') => proves_yes a u c (T : Int) P n cw (wyA a.e c (T : Int) (P : Int)) W w' (Row.below he hb) hea hn hL.pn hc (hW.below hb) hw0 (by unfold wyA; omega) (wy_is a.e c (T : Int) a.e.length (P : Int) hwn))
  obtain ⟨nw, hnw⟩ : ∃ nw, (wyA a.e c (T : Int) (P : Int)).length = nw := ⟨_, rfl⟩
  obtain ⟨ln, hln⟩ : ∃ ln, L.length = ln := ⟨_, rfl⟩
  rw [hnw] at HCP R3 hW4 ⊢
  rw [hln] at R3 hW4 ⊢
  have HLN := Lib.hid hln
  have XC := Lib.hid (fun w' (hb : Below W4.heap.size W4 w') => (by
    have x2 := (hb.block _ (row_lt R2.out)).trans R2.out
    refine ⟨gdCells ((hb.block _ (row_lt R0.out)).trans R0.out), geCells ((hb.block _ (row_lt R1.out)).trans R1.out), ?_, ?_, lkcCells ((hb.block _ (row_lt R3.out)).trans R3.out), HB.out.trans (hb.mono HB.out.size)⟩
    · rw [cell_of_row _ _ 0 _ _ _ x2]; rfl
    · rw [cell_of_row _ _ 1 _ _ _ x2]; rfl : (w'.cell? ⟨w.heap.size, 0, none⟩ = some (.slice v.A1 d.k.length v.c1) ∧ w'.cell? ⟨w.heap.size, 1, none⟩ = some (.slice v.A2 d.e.length v.c2)) ∧ (w'.cell? ⟨w.heap.size + 1, 0, none⟩ = some (.int .i64 a.n) ∧ w'.cell? ⟨w.heap.size + 1, 1, none⟩ = some (.slice u.A a.e.length u.c)) ∧ w'.cell? ⟨w.heap.size + 1 + 1, 0, none⟩ = some (.int .i64 p) ∧ w'.cell? ⟨w.heap.size + 1 + 1, 1, none⟩ = some (.int .i64 (T : Int)) ∧ (w'.cell? ⟨w.heap.size + 1 + 1 + 1, 0, none⟩ = some (.slice W nw cw) ∧ w'.cell? ⟨w.heap.size + 1 + 1 + 1, 1, none⟩ = some (.int .i64 (P : Int)) ∧ w'.cell? ⟨w.heap.size + 1 + 1 + 1, 2, none⟩ = some (.int .i64 (T : Int)) ∧ w'.cell? ⟨w.heap.size + 1 + 1 + 1, 3, none⟩ = some (.int .i64 lk) ∧ w'.cell? ⟨w.heap.size + 1 + 1 + 1, 4, none⟩ = some (.int .i64 gk) ∧ w'.cell? ⟨w.heap.size + 1 + 1 + 1, 5, none⟩ = some (.slice A ln k)) ∧ Below w.heap.size w w'))
  have HFD := Lib.hid (show (#[.slice v.A1 d.k.length v.c1, .slice v.A2 d.e.length v.c2] : Array Value) = gd d v from rfl)
  have HFE := Lib.hid (show (#[.int .i64 a.n, .slice u.A a.e.length u.c] : Array Value) = ge a u from rfl)
  have HFR := Lib.hid (show (#[.int .i64 (P : Int), .int .i64 (T : Int), .int .i64 lk, .int .i64 gk, .slice A ln k] : Array Value) = rc (P : Int) (T : Int) lk gk A ln k from rfl)
  have d1 : decide ((T : Int) < 0) = false := decide_eq_false (by omega)
  have d2 : decide ((1099511627776 : Int) < (T : Int)) = false := decide_eq_false (by omega)
  have e2 : ((T : Int) != (T : Int)) = false := by simp
  have hPn := hL.pn
  by_cases hp1 : p = -1
  · subst hp1
    obtain ⟨q1, q2, q3⟩ := hL.all rfl
    have hlen0 : ln = 0 := by rw [← hln, q3]; rfl
    have hlki : (lkA a.e (P : Int) (T : Int)).isSome = true := by
      have := hL.may
      unfold xB at this
      rw [if_pos rfl] at this
      exact this
    have HST := Lib.hid (fun w' (hb : Below w.heap.size w w') (g : Nat) (hg : w'.heap[g]? = some (.cells #[.int .i64 1] 3 (0, 0))) => (show Calls Tryz.prog 21 #[.agg (gd exK ⟨some ⟨g, 0, none⟩, 1, none, 0⟩), .agg (ge a u), .int .i64 0, .agg (rc (P : Int) (T : Int) lk gk A ln k)] w' fun e w'' => e = .returned (.bool true) ∧ Below w'.heap.size w' w'' from by
      have := pproves_any exK ⟨some ⟨g, 0, none⟩, 1, none, 0⟩ a u 0 P T k lk gk A L w' ⟨row_blk hg rfl, row_none _ _ _⟩ exK_ok (Row.below he hb) hea (by omega) (by decide) hcap (.inl ⟨hlki, q1, q2, q3⟩) (hA.below hb) hk
      rw [hln] at this
      exact this))
    have HFK := Lib.hid (fun g : Nat => (show (#[.slice (some ⟨g, 0, none⟩) 1 1, .slice none 0 0] : Array Value) = gd exK ⟨some ⟨g, 0, none⟩, 1, none, 0⟩ from rfl))
    have e3 : (gk == -1) = true := by rw [q2]; rfl
    have e4 : ((ln : Int) == 0) = true := by rw [hlen0]; rfl
    have HL0 := Lib.hid hlen0
    clear h hok he hea hn hc hp hcap hL hW hk hA hT hwl hm hwn hw0 hb1 hb2 hb3 hb4 r0 r1 r2 r3 hs1 hs2 hs3 hnw hln q1 q2 q3 hlen0 hlki hPn
    go_enter Tryz.func31, Tryz.ntmps31
    go_upto_region 1 with fail
    (try rw [hW4])
    obtain ⟨⟨g0, g1⟩, ⟨c0, c1⟩, x0, x1, ⟨l0, l1, l2, l3, l4, l5⟩, bw⟩ := XC.out W4 (Below.refl _ _)
    clear bw
    go_wp2_with (first
      | (go_at_call 68; rw [HFD.out, HFE.out]; refine HCK.out.mono ?_; rintro e w1 ⟨rfl, hb1⟩; have B1 := Lib.hid hb1; clear hb1 g0 g1 c0 c1 x0 x1 l0 l1 l2 l3 l4 l5; obtain ⟨⟨g0, g1⟩, ⟨c0, c1⟩, x0, x1, ⟨l0, l1, l2, l3, l4, l5⟩, bw⟩ := XC.out w1 B1.out; have BW := Lib.hid bw; clear bw)
      | (go_at_call 75; rw [HFE.out]; refine (HCP.out _ BW.out).mono ?_; rintro e w2 ⟨rfl, hb2⟩; have B2 := Lib.hid (B1.out.trans (hb2.mono B1.out.size)); clear hb2 g0 g1 c0 c1 x0 x1 l0 l1 l2 l3 l4 l5; obtain ⟨⟨g0, g1⟩, ⟨c0, c1⟩, x0, x1, ⟨l0, l1, l2, l3, l4, l5⟩, -⟩ := XC.out w2 B2.out; have hbs := (box_below w2 (.cells #[.int .i64 1] 3)).trans ((box_below (w2.alloc (.cells #[.int .i64 1] 3)) (.cells #[.slice (some ⟨w2.heap.size, 0, none⟩) 1 1, .slice none 0 0] 25)).mono (by simp)); have N1 := Lib.hid (heap_alloc2_old w2 (.cells #[.int .i64 1] 3) (.cells #[.slice (some ⟨w2.heap.size, 0, none⟩) 1 1, .slice none 0 0] 25)); have n2 := heap_alloc2_new w2 (.cells #[.int .i64 1] 3) (.cells #[.slice (some ⟨w2.heap.size, 0, none⟩) 1 1, .slice none 0 0] 25); obtain ⟨s0, s1⟩ := gdCells (d := exK) (v := ⟨some ⟨w2.heap.size, 0, none⟩, 1, none, 0⟩) n2; replace s0 : World.cell? _ _ = some (.slice (some ⟨w2.heap.size, 0, none⟩) 1 1) := s0; replace s1 : World.cell? _ _ = some (.slice none 0 0) := s1; obtain ⟨⟨gg0, gg1⟩, ⟨cc0, cc1⟩, xx0, xx1, ⟨ll0, ll1, ll2, ll3, ll4, ll5⟩, bw⟩ := XC.out ((w2.alloc (.cells #[.int .i64 1] 3)).alloc (.cells #[.slice (some ⟨w2.heap.size, 0, none⟩) 1 1, .slice none 0 0] 25)) (B2.out.trans (hbs.mono B2.out.size)); have BY := Lib.hid bw; clear bw hbs n2)
      | (go_at_call 21; rw [HFK.out, HFE.out, HFR.out]; refine (HST.out _ BY.out _ N1.out).mono ?_; rintro e w3 ⟨rfl, hb3⟩; have B3 := Lib.hid (BY.out.trans (hb3.mono BY.out.size)); clear hb3))
    go_ret
    exact ⟨by first | rfl | simp, B3.out⟩
  · obtain ⟨q, rfl⟩ : ∃ q : Nat, p = (q : Int) := ⟨p.toNat, by omega⟩
    have HPR := Lib.hid (fun w' (hb : Below w.heap.size w w') => (show Calls Tryz.prog 21 #[.agg (gd d v), .agg (ge a u), .int .i64 (q : Int), .agg (rc (P : Int) (T : Int) lk gk A ln k)] w' fun e w'' => e = .returned (.bool true) ∧ Below w'.heap.size w' w'' from by
      have := pproves_any d v a u q P T k lk gk A L w' (h.below hb) hok (Row.below he hb) hea (by omega) hL.rb hcap (hL.one hp1) (hA.below hb) hk
      rw [hln] at this
      exact this))
    have e1 : ((q : Int) != -1) = true := bne_iff_ne.2 hp1
    clear h hok he hea hn hc hp hcap hL hW hk hA hT hwl hm hwn hw0 hb1 hb2 hb3 hb4 r0 r1 r2 r3 hs1 hs2 hs3 hnw hln hp1 hPn
    go_enter Tryz.func31, Tryz.ntmps31
    go_upto_region 1 with fail
    (try rw [hW4])
    obtain ⟨⟨g0, g1⟩, ⟨c0, c1⟩, x0, x1, ⟨l0, l1, l2, l3, l4, l5⟩, bw⟩ := XC.out W4 (Below.refl _ _)
    clear bw
    go_wp2_with (first
      | (go_at_call 68; rw [HFD.out, HFE.out]; refine HCK.out.mono ?_; rintro e w1 ⟨rfl, hb1⟩; have B1 := Lib.hid hb1; clear hb1 g0 g1 c0 c1 x0 x1 l0 l1 l2 l3 l4 l5; obtain ⟨⟨g0, g1⟩, ⟨c0, c1⟩, x0, x1, ⟨l0, l1, l2, l3, l4, l5⟩, bw⟩ := XC.out w1 B1.out; have BW := Lib.hid bw; clear bw)
      | (go_at_call 75; rw [HFE.out]; refine (HCP.out _ BW.out).mono ?_; rintro e w2 ⟨rfl, hb2⟩; have B2 := Lib.hid (B1.out.trans (hb2.mono B1.out.size)); clear hb2 g0 g1 c0 c1 x0 x1 l0 l1 l2 l3 l4 l5; obtain ⟨⟨g0, g1⟩, ⟨c0, c1⟩, x0, x1, ⟨l0, l1, l2, l3, l4, l5⟩, bw⟩ := XC.out w2 B2.out; have BX := Lib.hid bw; clear bw)
      | (go_at_call 21; rw [HFD.out, HFE.out, HFR.out]; refine (HPR.out _ BX.out).mono ?_; rintro e w3 ⟨rfl, hb3⟩; have B3 := Lib.hid (BX.out.trans (hb3.mono BX.out.size)); clear hb3))
    go_ret
    exact ⟨by first | rfl | simp, B3.out⟩

end Go.Proofs.YtgknfkmojhganaaGreat.Di
