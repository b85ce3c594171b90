import Derived.Test.YtgknfkmojhganaaGreatDjL
namespace Go.Proofs.YtgknfkmojhganaaGreat.Di
open Go.RowKit
open Go.Proofs.YtgknfkmojhganaaGreat.Tp
set_option linter.unusedVariables false

theorem take_no {M : Nat → Nat → Bool} {n p g : Nat} {c : List Nat} (h : Chain M n p g c) {i : Nat} (hi : i < c.length) : anyB (fun j => (c.take i).getD j 0 == c.getD i 0) i = false :=
  any_no fun j hj => by
    rw [beq_eq_false_iff_ne]
    intro e
    have e2 : (c.take i).getD j 0 = c.getD j 0 := by
      rw [List.getD_eq_getElem?_getD, List.getD_eq_getElem?_getD, List.getElem?_take_of_lt hj]
    rw [e2] at e
    have := h.inj j i (by omega) hi e
    omega
theorem Row.take {w : World} {B n i : Nat} {A : Option Addr} {l : List Nat} (h : Row w B 1 A n (iv l)) (hi : i ≤ n) : Row w B 1 A i (iv (l.take i)) := by
  have hl := h.len
  rw [iv_len] at hl
  refine ⟨by rw [iv_len, List.length_take]; congr 1; omega, fun h0 => ?_⟩
  obtain ⟨b, off, e, hB, hlt, hc⟩ := h.mem (by omega)
  refine ⟨b, off, e, hB, hlt, fun j u hj => hc j u ?_⟩
  have hji := (List.getElem?_eq_some_iff.1 hj).1
  simp [iv] at hji
  unfold iv at hj ⊢
  rw [List.map_take, List.getElem?_take_of_lt (by omega)] at hj
  exact hj

set_option maxRecDepth 100000 in
set_option maxHeartbeats 1000000 in
theorem proves_any (B : Nat) (d : Dy) (v : Vd) (t p g cs : Nat) (As : Option Addr) (l : List Nat) (w : World) (h : DL w B d v) (hok : Ok d) (hl : Row w 0 1 As l.length (iv l)) (hch : Chain (dm d t) d.k.length p g l) (hcs : l.length ≤ cs) :
    Calls Tryz.prog 104 #[.agg (gd d v), .int .i64 (t : Int), .slice As l.length cs] w fun e w' => e = .returned (.bool true) ∧ Below w.heap.size w w' := by
  have HB := Lib.hid (box_below w (.cells (gd d v) 25))
  have A1 := Lib.hid (heap_alloc_new w (.cells (gd d v) 25))
  have hn := hok.n
  have hl2 := hch.two
  have hln := hch.le
  have HD := Lib.hid h
  have HL := Lib.hid hl
  have HCH := Lib.hid hch
  have hck := fun w' (hw : Below w.heap.size w w') => check_any B d v w' (h.below hw) hok
  have hex := fun p w' => exists_any d v p w'
  have hma := fun w' (hw : Below w.heap.size w w') => members_any B d v t w' (h.below hw) hok
  simp only [gd] at hck hma hex
  have HCK := Lib.hid hck
  have HEX := Lib.hid hex
  have HMA := Lib.hid hma
  have HCS := Lib.hid hcs
  obtain ⟨g0, g1⟩ := gdCells A1.out
  have d2 : decide ((l.length : Int) < 2) = false := decide_eq_false (by omega)
  have d3 : decide (d.k.length < l.length) = false := decide_eq_false (by omega)
  clear h hok hck hex hma hl hch hcs
  go_enter Tryz.func104, Tryz.ntmps104
  go_wp2_with fail
  refine (HCK.out _ HB.out).mono ?_
  rintro e w1 ⟨rfl, hb1⟩
  have B1 := Lib.hid (HB.out.trans (hb1.mono HB.out.size))
  have C1 := Lib.hid ((hb1.block _ (row_lt A1.out)).trans A1.out)
  obtain ⟨c0, c1⟩ := gdCells C1.out
  clear hb1 g0 g1
  go_wp2_with fail
  refine (HMA.out _ B1.out).mono ?_
  rintro e w3 ⟨G, g, rfl, hmo, hb3⟩
  have B3 := Lib.hid (B1.out.trans (hb3.mono B1.out.size))
  have E1 := Lib.hid ((hb3.block _ (row_lt C1.out)).trans C1.out)
  have HMM := Lib.hid (hmo.mm)
  have HL3 := Lib.hid (HL.out.below B3.out)
  clear hb3 hmo c0 c1
  go_wp2_with fail
  go_loopw [31] (fun ii wr => ∃ i : Nat, i ≤ l.length ∧ ii = .int .i64 i ∧ Below w3.heap.size w3 wr) (fun ii _ => l.length - (intOf ii).toNat)
  case atStart => exact ⟨0, by omega, rfl, Below.refl _ _⟩
  case round =>
    obtain ⟨i, hi, rfl, hbl⟩ := hrel
    have HBI := Lib.hid hbl
    have hrow := HL3.out.below hbl
    obtain ⟨c0, c1⟩ := gdCells ((hbl.block _ (row_lt E1.out)).trans E1.out)
    by_cases hlt : i < l.length
    · obtain ⟨b, off, hAs, -, -, y0⟩ := hrow.int hlt
      have hpn := HCH.out.lt i hlt
      have hE := HEX.out (l.getD i 0) wr
      rw [decide_eq_true hpn] at hE
      have hno := take_no HCH.out hlt
      have i0 : (0 : Int) ≤ (i : Int) := by omega
      have i1 : (i : Int) < (l.length : Int) := by omega
      have i2 : (i : Int) ≤ (cs : Int) := by have := HCS.out; omega
      have hCT := fun w' (hw : Below wr.heap.size wr w') => contains_any (l.take i) (l.getD i 0) As i cs w' ((hrow.below hw).take (Nat.le_of_lt hlt)) (by omega)
      rw [hno] at hCT
      subst hAs
      cases i with
      | zero =>
        generalize l.getD 0 0 = q at *
        have HE := Lib.hid hE
        have HCT := Lib.hid hCT
        have e00 : ((0 : Nat) : Int) = 0 := rfl
        simp only [e00]
        rw [Nat.add_zero] at y0
        clear hE hbl e00 hno hCT hrow
        go_wp2_with (first
          | (go_at_call 83; (with_reducible refine HE.out.mono ?_); rintro e w2 ⟨rfl, hb2⟩; have HB2 := Lib.hid hb2; have B2 := Lib.hid (HBI.out.trans (hb2.mono HBI.out.size)); clear hb2)
          | (go_at_call 60; (refine (HCT.out _ HB2.out).mono ?_); rintro e w2' ⟨rfl, rfl⟩))
        exact ⟨⟨1, by omega, by go_num, B2.out⟩, by simp [intOf]; omega⟩
      | succ k =>
        obtain ⟨b', off', e7, -, -, y1⟩ := hrow.int (show k < l.length by omega)
        cases e7
        have hlk := HCH.out.link k hlt
        have hon := HCH.out.lt k (by omega)
        generalize l.getD (k + 1) 0 = q at *
        generalize l.getD k 0 = o at *
        obtain ⟨G', o2, gr, hG, -, hlG, -, hlg, z0, z1⟩ := HMM.out.row o hon
        cases hG
        have z2 := z1 q hpn
        rw [hlk] at z2
        rw [Nat.zero_add] at z0
        have hw1 : IntKind.i64.wrap (((k + 1 : Nat) : Int) - 1) = (k : Int) := by rw [IntWalk.i64_in _ (by omega)]; omega
        have HE := Lib.hid hE
        have HCT := Lib.hid hCT
        have HY := Lib.hid (fun w' (hw : Below wr.heap.size wr w') => And.intro ((hw.cell (p := ⟨b, off + k, none⟩) (block_lt_of_cell y1)).trans y1) (And.intro (((HBI.out.trans (hw.mono HBI.out.size)).cell (p := ⟨G, o, none⟩) hlG).trans z0) (((HBI.out.trans (hw.mono HBI.out.size)).cell (p := ⟨gr, q, none⟩) hlg).trans z2)))
        have k0 : (0 : Int) ≤ (k : Int) := by omega
        have k1 : (k : Int) < (l.length : Int) := by omega
        have o0 : (0 : Int) ≤ (o : Int) := by omega
        have o1 : (o : Int) < (d.k.length : Int) := by omega
        have q0 : (0 : Int) ≤ (q : Int) := by omega
        have q1 : (q : Int) < (d.k.length : Int) := by omega
        clear hE hbl hCT hno hrow z0 z1 z2 hlk
        go_wp2_with (first
          | (go_at_call 83; (with_reducible refine HE.out.mono ?_); rintro e w2 ⟨rfl, hb2⟩; have HB2 := Lib.hid hb2; have B2 := Lib.hid (HBI.out.trans (hb2.mono HBI.out.size)); obtain ⟨x0, x1, x2⟩ := HY.out _ hb2; clear hb2)
          | (go_at_call 60; (refine (HCT.out _ HB2.out).mono ?_); rintro e w2' ⟨rfl, rfl⟩))
        exact ⟨⟨k + 1 + 1, by omega, by go_num, B2.out⟩, by simp [intOf]; omega⟩
    · obtain rfl : l.length = i := by omega
      clear hbl hrow
      go_wp2_with fail
      go_ret
      exact ⟨rfl, B3.out.trans (HBI.out.mono B3.out.size)⟩

end Go.Proofs.YtgknfkmojhganaaGreat.Di
