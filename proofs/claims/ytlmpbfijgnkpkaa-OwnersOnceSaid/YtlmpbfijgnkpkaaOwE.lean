import Derived.Test.YtlmpbfijgnkpkaaOwD
namespace Go.Proofs.Ytlmpbfijgnkpkaa.Di
open Go.RowKit
open Go.Proofs.Ytlmpbfijgnkpkaa.Tp
set_option linter.unusedVariables false

/-- The way, as one list. -/
noncomputable def wayOf (f : Nat → Int) (n p : Nat) : List Nat := @dite _ (∃ c, Wy f n p c) (Classical.propDecidable _) (fun h => h.choose) (fun _ => [])
theorem Wy.eq {f : Nat → Int} {n p : Nat} {c : List Nat} (h : Wy f n p c) : wayOf f n p = c := by
  unfold wayOf
  have hx : ∃ c, Wy f n p c := ⟨c, h⟩
  rw [dif_pos hx]
  exact hx.choose_spec.uniq h
/-- The first person of a way. -/
def fp (d : Dy) (c : List Nat) : Option Nat := c.find? fun q => kd d q == 1
noncomputable def onr (d : Dy) (l : List Sw) (t : Int) (p : Nat) : Option Nat := fp d (wayOf (fun q => stw l q t) d.k.length p)
theorem fp_at {d : Dy} {c : List Nat} {k : Nat} (hk : k < c.length) (h : kd d (c.getD k 0) = 1) (hno : ∀ i, i < k → kd d (c.getD i 0) ≠ 1) : fp d c = some (c.getD k 0) := by
  have hg : ∀ i, (hi : i < c.length) → c.getD i 0 = c[i] := fun i hi => by rw [List.getD_eq_getElem?_getD, List.getElem?_eq_getElem hi]; rfl
  unfold fp
  rw [List.find?_eq_some_iff_getElem]
  refine ⟨beq_iff_eq.2 h, k, hk, (hg k hk).symm, fun j hj => ?_⟩
  have := hno j hj
  rw [hg j (by omega)] at this
  simpa using this
theorem fp_no {d : Dy} {c : List Nat} (hno : ∀ i, i < c.length → kd d (c.getD i 0) ≠ 1) : fp d c = none := by
  unfold fp
  rw [List.find?_eq_none]
  intro x hx
  obtain ⟨i, hi, rfl⟩ := List.getElem_of_mem hx
  have := hno i hi
  rw [List.getD_eq_getElem?_getD, List.getElem?_eq_getElem hi] at this
  simpa using this
def opV (o : Option Nat) : Value := .tuple #[.int .i64 ((o.getD 0 : Nat) : Int), .bool o.isSome]
theorem Wy.get {f : Nat → Int} {n p : Nat} {c : List Nat} (h : Wy f n p c) {i : Nat} (hi : i < c.length) : c.getD i 0 < n := by
  rw [List.getD_eq_getElem?_getD, List.getElem?_eq_getElem hi]
  exact h.lt _ (List.getElem_mem hi)

set_option maxRecDepth 100000 in
set_option maxHeartbeats 1000000 in
theorem owner33_any (B : Nat) (d : Dy) (v : Vd) (l : List Sw) (A : Option Addr) (cc : Nat) (p : Nat) (t : Int) (w : World) (h : DL w B d v) (hs : Row w 0 3 A l.length (sv l)) (hn : d.k.length ≤ 1000) (hso : SOk d.k.length l) (hp : p < d.k.length) :
    Calls Try.prog 33 #[.agg (gd d v), .slice A l.length cc, .int .i64 (p : Int), .int .i64 t] w fun e w' => e = .returned (opV (onr d l t p)) ∧ Below w.heap.size w w' := by
  have HB0 := Lib.hid (box_below w (.cells (gd d v) 25))
  have HR0 := Lib.hid (heap_alloc_new w (.cells (gd d v) 25))
  have HWY := Lib.hid (way_any d.k.length l p t A cc (w.alloc (.cells (gd d v) 25)) (hs.below HB0.out) hso hp hn)
  have HD := Lib.hid h
  have HON := Lib.hid (show ∀ c, Wy (fun q => stw l q t) d.k.length p c → onr d l t p = fp d c from fun c hc => by unfold onr; rw [hc.eq])
  generalize onr d l t p = o at *
  clear h hs hso hp
  go_enter Try.func33, Try.ntmps33
  go_wp2_with fail
  refine HWY.out.mono ?_
  rintro e w1 ⟨c, A1, c1, rfl, hwy, hown, hb1⟩
  have HB1 := Lib.hid (HB0.out.trans (hb1.mono HB0.out.size))
  have R1 := Lib.hid ((hb1.block _ (row_lt HR0.out)).trans HR0.out)
  have HW := Lib.hid hwy
  have HV := Lib.hid (HON.out c hwy)
  have HO := Lib.hid (row_of_own hown)
  have hcl : c.length ≤ d.k.length := nodup_le _ _ hwy.nd hwy.lt
  clear hwy hown hb1
  go_wp2_with fail
  clear HWY HON HR0
  go_loopw [17] (fun ii wr => ∃ k : Nat, k ≤ c.length ∧ ii = .int .i64 (k : Int) ∧ (∀ i, i < k → kd d (c.getD i 0) ≠ 1) ∧ wr = w1) (fun ii _ => c.length - (intOf ii).toNat)
  case atStart => exact ⟨0, by omega, rfl, fun i hi => absurd hi (by omega), rfl⟩
  case round =>
    obtain ⟨k, hk, rfl, hno, rfl⟩ := hrel
    have HNO := Lib.hid hno
    clear hno
    obtain ⟨g0, g1⟩ := gdCells R1.out
    by_cases hlt : k < c.length
    · obtain ⟨b, off, hA, -, -, y0⟩ := HO.out.int hlt
      obtain ⟨b2, off2, hA2, -, -, y1⟩ := (HD.out.below HB1.out).r1.int (HW.out.get hlt)
      have hK : d.k.getD (c.getD k 0) 0 = kd d (c.getD k 0) := rfl
      rw [hK] at y1
      have hq := HW.out.get hlt
      have HFP := Lib.hid (fun h => fp_at (d := d) hlt h HNO.out)
      have HST := Lib.hid (show kd d (c.getD k 0) ≠ 1 → ∀ i, i < k + 1 → kd d (c.getD i 0) ≠ 1 from fun h i hi => by
        by_cases e : i = k
        · rw [e]; exact h
        · exact HNO.out i (by omega))
      generalize c.getD k 0 = q at *
      clear hK
      subst hA
      rw [hA2] at g0
      have i0 : (0 : Int) ≤ (k : Int) := by omega
      have i1 : (k : Int) < (c.length : Int) := by omega
      have q0 : (0 : Int) ≤ (q : Int) := by omega
      have q1 : (q : Int) < (d.k.length : Int) := by omega
      by_cases e : kd d q = 1
      · have k1 : (((kd d q : Nat) : Int) == 1) = true := by rw [e]; rfl
        have HQ := Lib.hid (HFP.out e)
        clear e hA2
        go_wp2_with fail
        go_ret2
        exact ⟨by rw [HV.out, HQ.out]; rfl, HB1.out⟩
      · have k1 : (((kd d q : Nat) : Int) == 1) = false := beq_eq_false_iff_ne.2 (by omega)
        have HQ := Lib.hid (HST.out e)
        clear e hA2
        go_wp2_with fail
        exact ⟨⟨k + 1, by omega, by go_num, HQ.out, by first | rfl | trivial⟩, by simp [intOf]; omega⟩
    · obtain rfl : k = c.length := by omega
      have HQ := Lib.hid (fp_no HNO.out)
      go_wp2_with fail
      go_ret2
      exact ⟨by rw [HV.out, HQ.out]; rfl, HB1.out⟩

set_option maxRecDepth 100000 in
set_option maxHeartbeats 1000000 in
theorem owner15_any (B : Nat) (d : Dy) (v : Vd) (l : List Sw) (A : Option Addr) (cc : Nat) (p : Nat) (t : Int) (w : World) (h : DL w B d v) (hs : Row w 0 3 A l.length (sv l)) (hok : Ok d) (hso : SOk d.k.length l) (hp : p < d.k.length) :
    Calls Try.prog 15 #[.agg (gd d v), .slice A l.length cc, .int .i64 (p : Int), .int .i64 t] w fun e w' => e = .returned (opV (onr d l t p)) ∧ Below w.heap.size w w' := by
  have HB0 := Lib.hid (box_below w (.cells (gd d v) 25))
  have HR0 := Lib.hid (heap_alloc_new w (.cells (gd d v) 25))
  have hn := hok.n
  have HS := Lib.hid hs
  have HD := Lib.hid h
  have HCK := Lib.hid (check13_any B d v l A cc (w.alloc (.cells (gd d v) 25)) (h.below HB0.out) (hs.below HB0.out) hok hso)
  have hex := fun w' => exists30_any d v p w'
  rw [decide_eq_true hp] at hex
  have HWY := Lib.hid (fun w' (hd : DL w' B d v) (hw : Row w' 0 3 A l.length (sv l)) => owner33_any B d v l A cc p t w' hd hw (by omega) hso hp)
  simp only [gd, opV] at hex HCK HWY
  have HEX := Lib.hid hex
  obtain ⟨c0, c1⟩ := gdCells HR0.out
  unfold opV
  generalize onr d l t p = o at *
  clear h hok hs hso hex hp
  go_enter Try.func15, Try.ntmps15
  go_wp2_with (first
    | (go_at_call 13; refine HCK.out.mono ?_; rintro e w1 ⟨rfl, hb1⟩; have HB1 := Lib.hid (HB0.out.trans (hb1.mono HB0.out.size)); have R1 := Lib.hid ((hb1.block _ (row_lt HR0.out)).trans HR0.out); obtain ⟨c0, c1⟩ := gdCells R1.out; clear hb1)
    | (go_at_call 30; refine (HEX.out _).mono ?_; rintro e w2 ⟨rfl, hb2⟩; have HB2 := Lib.hid (HB1.out.trans (hb2.mono HB1.out.size)); obtain ⟨c0, c1⟩ := gdCells ((hb2.block _ (row_lt R1.out)).trans R1.out); clear hb2))
  refine (HWY.out _ (HD.out.below HB2.out) (HS.out.below HB2.out)).mono ?_
  rintro e w3 ⟨rfl, hb3⟩
  have HB3 := Lib.hid (HB2.out.trans (hb3.mono HB2.out.size))
  clear hb3
  go_wp2_with fail
  go_ret2
  exact ⟨rfl, HB3.out⟩

end Go.Proofs.Ytlmpbfijgnkpkaa.Di
