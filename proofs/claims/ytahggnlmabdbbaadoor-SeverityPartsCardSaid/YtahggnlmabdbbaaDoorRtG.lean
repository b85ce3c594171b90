import Derived.Test.YtahggnlmabdbbaaDoorRtD
import Derived.OwnWalk
namespace Go.Proofs.YtahggnlmabdbbaaDoor.Di
open Go.RowKit
open Go.Proofs.YtahggnlmabdbbaaDoor.Tp
set_option linter.unusedVariables false
set_option linter.unusedSimpArgs false

def eqB (l : List Int) (x : Int) (j : Nat) : Bool := e0 l j == x
theorem eqB_in (l : List Int) (x : Int) : anyB (eqB l x) l.length = inB l x := by
  cases h : inB l x with
  | true =>
    obtain ⟨j, hj, e⟩ := e0_of (inB_iff.1 h)
    exact (any_iff _ _).2 ⟨j, hj, by unfold eqB; rw [e]; simp⟩
  | false =>
    cases ha : anyB (eqB l x) l.length with
    | false => rfl
    | true =>
      obtain ⟨j, hj, hp⟩ := (any_iff _ _).1 ha
      have : inB l x = true := inB_iff.2 (by
        have e : e0 l j = x := by simpa [eqB] using hp
        rw [← e]; exact e0_mem hj)
      rw [h] at this
      cases this
set_option maxRecDepth 100000 in
set_option maxHeartbeats 400000 in
theorem index_any (l : List Int) (x : Int) (A : Option Addr) (n c : Nat) (w : World) (h : Row w 0 1 A n (zv l)) (hn : n ≤ 1099511627776) :
    Calls Tryd.prog 54 #[.slice A n c, .int .i64 x] w fun e w' => e = .returned (.int .i64 (fi (eqB l x) n 0)) ∧ w' = w := by
  have H := Lib.hid h
  clear h
  have HS := Lib.hid (fun k (hk : k < n) => fi_step (eqB l x) n k hk)
  have HEQ := Lib.hid (show ∀ k, eqB l x k = (e0 l k == x) from fun k => rfl)
  generalize eqB l x = p at *
  go_enter Tryd.func54, Tryd.ntmps54
  go_wp2_with fail
  go_loopw [8] (fun ii wr => ∃ k : Nat, k ≤ n ∧ ii = .int .i64 k ∧ fi p n 0 = fi p (n - k) k ∧ wr = w) (fun ii _ => n - (intOf ii).toNat)
  case atStart => exact ⟨0, by omega, rfl, rfl, rfl⟩
  case round =>
    obtain ⟨k, hk, rfl, hfi, rfl⟩ := hrel
    have HF := Lib.hid hfi
    clear hfi
    by_cases hlt : k < n
    · obtain ⟨b, off, hA, -, -, d0⟩ := H.out.z hlt
      subst hA
      have HSk := Lib.hid (HS.out k hlt)
      have HEK := Lib.hid (HEQ.out k)
      have i0 : (0 : Int) ≤ (k : Int) := by omega
      have i1 : (k : Int) < (n : Int) := by omega
      generalize e0 l k = y at *
      by_cases e : y = x
      · have k1 : (x == y) = true := by rw [e]; simp
        have HE := Lib.hid (show p k = true by rw [HEK.out, e]; simp)
        clear e
        go_wp2_with fail
        go_ret
        refine ⟨?_, rfl⟩
        rw [HF.out, HSk.out.1 HE.out]
        rfl
      · have k1 : (x == y) = false := beq_eq_false_iff_ne.2 (fun h => e h.symm)
        have HE := Lib.hid (show p k = false by rw [HEK.out]; exact beq_eq_false_iff_ne.2 e)
        clear e
        go_wp2_with fail
        exact ⟨⟨k + 1, by omega, by go_num, by rw [HF.out, HSk.out.2 HE.out], by first | rfl | trivial⟩, by simp [intOf]; omega⟩
    · obtain rfl : n = k := by omega
      go_wp2_with fail
      go_ret
      refine ⟨?_, rfl⟩
      rw [HF.out, Nat.sub_self]
      rfl
set_option maxRecDepth 100000 in
set_option maxHeartbeats 400000 in
theorem contains_any (l : List Int) (x : Int) (A : Option Addr) (c : Nat) (w : World) (h : Row w 0 1 A l.length (zv l)) (hn : l.length ≤ 1099511627776) :
    Calls Tryd.prog 49 #[.slice A l.length c, .int .i64 x] w fun e w' => e = .returned (.bool (inB l x)) ∧ w' = w := by
  have HC := Lib.hid (index_any l x A l.length c w h hn)
  have HIN := Lib.hid (eqB_in l x)
  generalize l.length = n at *
  generalize eqB l x = p at *
  clear h
  cases ha : anyB p n with
  | false =>
    rw [fi_none p n ha] at HC
    rw [ha] at HIN
    clear ha
    go_enter Tryd.func49, Tryd.ntmps49
    go_wp2_with (go_at_call 54; refine HC.out.mono ?_; rintro e w' ⟨rfl, rfl⟩)
    go_ret
    exact ⟨by rw [← HIN.out]; first | rfl | simp, rfl⟩
  | true =>
    obtain ⟨q, hq⟩ := fi_some p n ha
    rw [hq] at HC
    rw [ha] at HIN
    clear ha hq
    have hd : decide ((0 : Int) ≤ (q : Int)) = true := decide_eq_true (by omega)
    go_enter Tryd.func49, Tryd.ntmps49
    go_wp2_with (go_at_call 54; refine HC.out.mono ?_; rintro e w' ⟨rfl, rfl⟩)
    go_ret
    exact ⟨by rw [← HIN.out]; first | rfl | simp, rfl⟩

theorem own_put {W : World} {B n c G p : Nat} {e : TypeId} {u : Value} {xs : List Value} (h : W.ownsRow B e 1 (.slice (some ⟨G, 0, none⟩) n c) n xs) (hp : p < n) :
    W.cell? ⟨G, p, none⟩ = xs[p]? ∧ W.frozen? ⟨G, p, none⟩ = false ∧ (W.setCell ⟨G, p, none⟩ u).ownsRow B e 1 (.slice (some ⟨G, 0, none⟩) n c) n (xs.set p u) ∧ W.grownBy (W.setCell ⟨G, p, none⟩ u) (some G) := by
  rcases h.2 with ⟨hv, _⟩ | ⟨g', cap, cur, hv, hB, hh, h1, h2, h3, ht⟩
  · cases hv
  · cases hv
    have hl := h.1
    have hcl : cur.toList.length = c * 1 := by simpa using h3
    have hpc : p < cur.size := by omega
    refine ⟨?_, frozen_of_row _ _ _ _ _ hh, ⟨by rw [List.length_set]; exact hl, .inr ⟨G, c, cur.setIfInBounds p u, rfl, hB, ?_, h1, h2, by simpa using h3, ?_⟩⟩, gb_set _ _ _ _⟩
    · rw [cell_of_row _ _ _ _ _ _ hh, ← ht, List.getElem?_take_of_lt (by omega)]
      simp
    · rw [setCell_eq_setRow _ _ _ _ _ _ _ hh]
      exact setRow_heap _ _ _ _ _ _ hh
    · rw [← ht, Array.toList_setIfInBounds, List.take_set]

theorem own_full {w : World} {B e n G : Nat} {xs : List Value} (h : w.ownsRow B e 1 (.slice (some ⟨G, 0, none⟩) n n) n xs) : w.heap[G]? = some (.cells xs.toArray e (0, 0)) ∧ B ≤ G := by
  have hl := h.1
  rcases h.2 with ⟨hv, _⟩ | ⟨g', cap, cur, hv, hB, hh, h1, h2, h3, ht⟩
  · cases hv
  · cases hv
    refine ⟨?_, hB⟩
    have hcl : cur.toList.length = n := by simpa using h3
    rw [List.take_of_length_le (by omega)] at ht
    rw [hh, ← ht]

theorem made_zv (n : Nat) : (madeCells (Value.cells (.int .i64 0)) (n * 1)).toList = zv (List.replicate n 0) := by
  rw [Nat.mul_one]
  apply List.ext_getElem?
  intro j
  by_cases h : j < n
  · simp [madeCells, zv, Value.cells, h, Nat.mod_one]
  · simp [madeCells, zv, Value.cells, h]
theorem zv_set (l : List Int) (p : Nat) (x : Int) : (zv l).set p (.int .i64 x) = zv (l.set p x) := by
  unfold zv
  rw [List.map_set]

theorem e0_at {l : List Int} {j : Nat} (h : j < l.length) : (zv l)[j]? = some (.int .i64 (e0 l j)) := zv_at l j h
theorem pwN_set (x : Rt) (S : Int → Bool) (k r : Nat) (hr : (e3 x.g k).b = (r : Int)) (hS : S (e3 x.g k).a = true) : (pwN x S k).set r (max (gt x S (r : Int) k) (e3 x.g k).c) = pwN x S (k + 1) := by
  unfold pwN
  apply List.ext_getElem?
  intro j
  rw [List.getElem?_set]
  by_cases hj : j < x.k.toNat
  · by_cases e : r = j
    · subst e
      rw [if_pos rfl]
      simp [hj, gt, hS, hr]
    · rw [if_neg e]
      simp only [List.getElem?_map, List.getElem?_range hj, Option.map_some]
      rw [gt, if_neg (fun h => e (by have := h.2; omega))]
  · by_cases e : r = j
    · subst e
      rw [if_pos rfl]
      simp [hj]
    · rw [if_neg e]
      simp [hj]
theorem pwN_skip (x : Rt) (S : Int → Bool) (k : Nat) (hS : S (e3 x.g k).a = false) : pwN x S (k + 1) = pwN x S k := by
  unfold pwN
  apply List.map_congr_left
  intro r _
  rw [gt, if_neg (fun h => by rw [hS] at h; cases h.1)]
theorem pwN_zero (x : Rt) (S : Int → Bool) : pwN x S 0 = List.replicate x.k.toNat 0 := by
  unfold pwN
  apply List.ext_getElem?
  intro j
  by_cases hj : j < x.k.toNat
  · simp [hj, gt]
  · simp [hj]
theorem own_drew {w : World} {B e s n : Nat} {v : Value} {xs : List Value} (h : w.ownsRow B e s v n xs) : w.drew.ownsRow B e s v n xs := h
theorem gb_drew {w w' : World} {row : Option Nat} (h : w.grownBy w' row) : w.grownBy w'.drew row := ⟨h.os, h.tape, h.output, h.size, h.block⟩
def PwPost (l : List Int) (w : World) (e : Ending) (w' : World) : Prop := ∃ A cc, e = .returned (.slice A l.length cc) ∧ w'.ownsRow w.heap.size 3 1 (.slice A l.length cc) l.length (zv l) ∧ Below w.heap.size w w'
set_option maxRecDepth 100000 in
set_option maxHeartbeats 4000000 in
theorem greatest_any (x : Rt) (v : Vr) (l : List Int) (A : Option Addr) (cc : Nat) (w : World) (h : RL w 0 x v) (hx : Rok x) (hl : Row w 0 1 A l.length (zv l)) (hn : l.length ≤ 1099511627776) :
    Calls Tryd.prog 42 #[.agg (gr x v), .slice A l.length cc] w (PwPost (pw x (inB l)) w) := by
  have HD := Lib.hid h
  have HX := Lib.hid hx
  have HCT := Lib.hid (fun w' (hb : Below w.heap.size w w') y => contains_any l y A cc w' (hl.below hb) hn)
  have HB0 := Lib.hid (box_below w (.cells (gr x v) 27))
  have HR0 := Lib.hid (heap_alloc_new w (.cells (gr x v) 27))
  obtain ⟨c0, c1, c2, c3, c4⟩ := grCells HR0.out
  obtain ⟨n, hkn⟩ : ∃ n : Nat, x.k = (n : Int) := ⟨x.k.toNat, by have := hx.k0; omega⟩
  have hn24 : n ≤ 24 := by have := hx.k1; omega
  have hkt : x.k.toNat = n := by omega
  have HZ := Lib.hid (pwN_zero x (inB l))
  have HSET := Lib.hid (pwN_set x (inB l))
  have HSKIP := Lib.hid (pwN_skip x (inB l))
  have HAT := Lib.hid (fun k r (hr : r < n) => pwN_at x (inB l) k (r := r) (by rw [hkt]; exact hr))
  have HLEN := Lib.hid (fun k => (pwN_len x (inB l) k).trans hkt)
  have HGT := Lib.hid (fun r k => gt_nonneg x (inB l) r k)
  have HPW := Lib.hid (show pw x (inB l) = pwN x (inB l) x.g.length from rfl)
  unfold PwPost
  rw [HPW.out, HLEN.out]
  rw [hkt] at HZ
  rw [hkn] at c1
  obtain ⟨i0, hi1, hz0, hz1, hz2⟩ := info_parts zinfo3
  have HI := Lib.hid hi1
  have HI0 := Lib.hid hz0
  have HI1 := Lib.hid hz1
  have HI2 := Lib.hid hz2
  have hz : (w.alloc (.cells (gr x v) 27)).heap.size = w.heap.size + 1 := by simp
  have HGS := Lib.hid (show ∀ r k, gt x (inB l) r k = gt x (inB l) r k from fun r k => rfl)
  clear hi1 hz0 hz1 hz2 h hx hl HPW
  generalize hP : pwN x (inB l) = P at *
  generalize hGG : gt x (inB l) = GG at *
  go_enter Tryd.func42, Tryd.ntmps42
  go_wp2_with (at_make; refine wpList_make_full _ rfl _ _ 22 rfl (w.heap.size + 1) 3 i0 (.int .i64 0) 1 Tryd.underlying22 HI.out HI0.out HI1.out .i64 .i64 _ _ n rfl rfl rfl rfl (by rw [HI2.out]; omega) (by unfold maxLen; omega) (by rw [hz]; exact Nat.le_refl _) ?_; intro w1 hown hgr; rw [made_zv, hz] at hown; have HOWN := Lib.hid hown; have HB1 := Lib.hid (HB0.out.grown hgr HB0.out.size (fun k e => by cases e)); have M1 := Lib.hid ((hgr.block _ (row_lt HR0.out) (by simp)).trans HR0.out); clear hown hgr c0 c1 c2 c3 c4; obtain ⟨c0, c1, c2, c3, c4⟩ := grCells M1.out)
  clear hP hGG
  go_loopw [14] (fun ii wr => ∃ k : Nat, k ≤ x.g.length ∧ ii = .int .i64 (k : Int) ∧ wr.ownsRow (w.heap.size + 1) 3 1 (.slice (some ⟨w.heap.size + 1, 0, none⟩) n n) n (zv (P k)) ∧ Below w.heap.size w wr) (fun ii _ => x.g.length - (intOf ii).toNat)
  case atStart => exact ⟨0, by omega, rfl, by rw [HZ.out]; exact HOWN.out, HB1.out⟩
  case round =>
    obtain ⟨k, hk, rfl, hown, hbl⟩ := hrel
    have HO := Lib.hid hown
    have HBL := Lib.hid hbl
    clear hown hbl c0 c1 c2 c3 c4
    have hlg := HX.out.lg
    by_cases hlt : k < x.g.length
    · obtain ⟨b, off, hA, -, hbk, y0, y1, y2⟩ := (HD.out.below HBL.out).r1.t3 hlt
      have HSK := Lib.hid (HSKIP.out k)
      have HST := Lib.hid (HSET.out k)
      obtain ⟨g1, g2, g3, g4, g5, g6⟩ := HX.out.g k hlt
      generalize e3 x.g k = y at *
      obtain ⟨ya, yb, yc⟩ := y
      simp only at y0 y1 y2 g1 g2 g3 g4 g5 g6 HST HSK
      have j0 : (0 : Int) ≤ (k : Int) := by omega
      have j1 : (k : Int) < (x.g.length : Int) := by omega
      rw [hA]
      have hbx := box_below wr (.cells #[.int .i64 ya, .int .i64 yb, .int .i64 yc] 54)
      have XN := heap_alloc_new wr (.cells #[.int .i64 ya, .int .i64 yb, .int .i64 yc] 54)
      have HBX := Lib.hid (HBL.out.trans (hbx.mono HBL.out.size))
      have HOX := Lib.hid (own_below HO.out hbx)
      obtain ⟨n0, n1, n2⟩ := c3Cells (x := ⟨ya, yb, yc⟩) XN
      simp only at n0 n1 n2
      have HCY := Lib.hid (HCT.out _ HBX.out ya)
      cases hi : inB l ya with
      | false =>
        rw [hi] at HCY
        have HKK := Lib.hid (HSK.out hi)
        clear hi hbx XN
        go_wp2_with (go_at_call 49; (with_reducible refine HCY.out.mono ?_); rintro e wq ⟨rfl, rfl⟩)
        exact ⟨⟨k + 1, by omega, by go_num, by rw [HKK.out]; exact HOX.out, HBX.out⟩, by simp [intOf]; omega⟩
      | true =>
        rw [hi] at HCY
        obtain ⟨r, rfl⟩ : ∃ r : Nat, yb = (r : Int) := ⟨yb.toNat, by omega⟩
        have hrn : r < n := by omega
        have HKK := Lib.hid (HST.out r rfl hi)
        have hHl := row_lt (own_full HO.out).1
        obtain ⟨q1, q2, -, -⟩ := own_put (u := .int .i64 0) HOX.out hrn
        rw [zv_at _ _ (by rw [HLEN.out]; exact hrn), HAT.out k r hrn] at q1
        have hg0 := HGT.out (r : Int) k
        generalize GG (r : Int) k = z at *
        have r0 : (0 : Int) ≤ (r : Int) := by omega
        have r1 : (r : Int) < (n : Int) := by omega
        have HXN := Lib.hid XN
        have hGs : (wr.alloc (.cells #[.int .i64 ya, .int .i64 (r : Int), .int .i64 yc] 54)).heap.size = wr.heap.size + 1 := by simp
        clear hi hbx XN
        go_wp2_with (go_at_call 49; (with_reducible refine HCY.out.mono ?_); rintro e wq ⟨rfl, rfl⟩)
        have hGlt : wr.heap.size < (wr.alloc (.cells #[.int .i64 ya, .int .i64 (r : Int), .int .i64 yc] 54)).heap.size := by simp
        have hne : w.heap.size + 1 ≠ wr.heap.size := by omega
        generalize wr.heap.size = G at *
        generalize wr.alloc (.cells #[.int .i64 ya, .int .i64 (r : Int), .int .i64 yc] 54) = W1 at *
        by_cases mx : z < yc
        · have d1 : decide (z < yc) = true := decide_eq_true mx
          have HMX := Lib.hid (show max z yc = yc by omega)
          rw [HMX.out] at HKK
          obtain ⟨-, -, o2, gb2⟩ := own_put (u := .int .i64 yc) HOX.out hrn
          go_region_law (fail)
          all_goals
            go_wp2_with fail
            exact ⟨⟨k + 1, by omega, by go_num, by rw [← HKK.out, ← zv_set]; exact own_drew o2, HBX.out.grown (gb_drew gb2) HBX.out.size (fun j e => by cases e; omega)⟩, by simp [intOf]; omega⟩
        · have d1 : decide (z < yc) = false := decide_eq_false mx
          have HMX := Lib.hid (show max z yc = z by omega)
          rw [HMX.out] at HKK
          obtain ⟨-, -, o2, gb2⟩ := own_put (u := .int .i64 z) HOX.out hrn
          go_region_law (fail)
          all_goals
            go_wp2_with fail
            exact ⟨⟨k + 1, by omega, by go_num, by rw [← HKK.out, ← zv_set]; exact own_drew o2, HBX.out.grown (gb_drew gb2) HBX.out.size (fun j e => by cases e; omega)⟩, by simp [intOf]; omega⟩
    · obtain rfl : k = x.g.length := by omega
      go_wp2_with fail
      go_ret
      exact ⟨_, n, rfl, own_base HO.out (by omega), HBL.out⟩

end Go.Proofs.YtahggnlmabdbbaaDoor.Di
