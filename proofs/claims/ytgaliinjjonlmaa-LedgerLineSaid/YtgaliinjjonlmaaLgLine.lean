import Derived.Test.YtgaliinjjonlmaaLgFrame
import Derived.Test.YtgaliinjjonlmaaShelf
import Derived.Shelf.SlSortCmp.NoneTotal
namespace Go.Proofs.Ytgaliinjjonlmaa.Lg
open Go.RowKit Go.Shelf Go.Lib
open Go.Proofs.Ytgaliinjjonlmaa.Tp
set_option linter.unusedVariables false

instance : Inhabited R := ⟨r0⟩

def encR (r : R) : List Value := (recC r).toList

set_option maxHeartbeats 400000 in
theorem compare_all (x y : Nat) (w : World) : Calls Try.prog 66 #[.int .i64 (x : Int), .int .i64 (y : Int)] w fun e w' => e = .returned (.int .i64 (cmpI x y)) ∧ w = w' := by
  unfold cmpI
  by_cases h1 : x < y
  · rw [if_pos h1]
    go_enter Try.func66, Try.ntmps66
    go_wp2_with (first | (go_at_call 79; refine (nan_any _ _).mono ?_; rintro e w' ⟨rfl, rfl⟩))
    go_ret
    exact ⟨rfl, rfl⟩
  · rw [if_neg h1]
    by_cases h2 : y < x
    · rw [if_pos h2]
      go_enter Try.func66, Try.ntmps66
      go_wp2_with (first | (go_at_call 79; refine (nan_any _ _).mono ?_; rintro e w' ⟨rfl, rfl⟩))
      go_ret
      exact ⟨rfl, rfl⟩
    · rw [if_neg h2]
      go_enter Try.func66, Try.ntmps66
      go_wp2_with (first | (go_at_call 79; refine (nan_any _ _).mono ?_; rintro e w' ⟨rfl, rfl⟩))
      go_ret
      exact ⟨rfl, rfl⟩

set_option maxRecDepth 100000 in
set_option maxHeartbeats 400000 in
theorem since_any (x y : R) (W : World) : Calls Try.prog 74 #[.agg (recC x), .agg (recC y)] W fun e w' => e = .returned (.int .i64 (cmpI x.s y.s)) ∧ ∃ q os', w' = Go.Sort.grow (W.drewN q) os' := by
  obtain ⟨-, c1, -⟩ := recCells (W.alloc (.cells (recC x) 57)) x _ W.heap.size (heap_alloc_new _ _)
  have d1 := (recCells ((W.alloc (.cells (recC x) 57)).alloc (.cells (recC y) 57)) y _ (W.heap.size + 1) (by have := heap_alloc_new (W.alloc (.cells (recC x) 57)) (.cells (recC y) 57); simpa using this)).2.1
  have c1' : ((W.alloc (.cells (recC x) 57)).alloc (.cells (recC y) 57)).cell? ⟨W.heap.size, 1, none⟩ = some (.int .i64 (x.s : Int)) := (World.cell?_alloc_lt _ _ _ (by simp)).trans c1
  clear c1
  go_enter Try.func74, Try.ntmps74
  go_wp2_with (first
    | (go_at_call 66; (with_reducible refine (compare_all x.s y.s _).mono ?_); rintro e w' ⟨rfl, rfl⟩))
  go_ret
  exact ⟨rfl, 0, _, by rw [Go.Sort.alloc_eq_grow, Go.Sort.alloc_eq_grow, Go.Sort.grow_grow]; rfl⟩

def cfS (x y : R) : Int := cmpI x.s y.s

theorem lt_s (x y : R) : ltOf cfS x y = decide (x.s < y.s) := by
  unfold ltOf cfS cmpI
  by_cases h1 : x.s < y.s
  · simp [h1]
  · by_cases h2 : y.s < x.s <;> simp [h1, h2]

theorem swo_s : Go.Sort.SWO (ltOf cfS) where
  irrefl x := by rw [lt_s]; simp
  trans x y z h1 h2 := by rw [lt_s] at *; simp at *; omega
  ntrans x y z h1 h2 := by rw [lt_s] at *; simp at *; omega

theorem hlen12 (n : Nat) (W : World) (h : n ≤ 12) : Calls Try.prog 83 #[.int .u64 n] W fun e w' => (∃ l : Int, e = .returned (.int .i64 l)) ∧ w' = W :=
  (Any.bits_Len Try.lays125 n W (by omega) (by omega)).mono fun _ _ ⟨he, hw⟩ => ⟨⟨_, he⟩, hw⟩

theorem arr_get (d : Array R) (i : Nat) (hi : i < d.size) : d[i]! = d.toList.getD i r0 := by
  rw [getElem!_pos d i hi, List.getD_eq_getElem?_getD, List.getElem?_eq_getElem (by simpa using hi)]
  simp

/-- A row of one's own is a row for the sort. -/
theorem own_holds {w : World} {base g n c : Nat} {l : List R} (h : w.ownsRow base 57 4 (.slice (some ⟨g, 0, none⟩) n c) n (recs l)) (hl : l.length = n) : Go.Sort.HoldsK encR 4 w g 0 l.toArray := by
  have hrow : ∃ cur, w.heap[g]? = some (.cells cur 57 (0, 0)) := by
    rcases h.2 with ⟨e, _⟩ | ⟨g', cap, cur, e, _, hh, _⟩
    · cases e
    · cases e
      exact ⟨cur, hh⟩
  obtain ⟨cur, hh⟩ := hrow
  intro j hj
  simp only [Go.Sort.size_flatK] at hj
  have hj' : j < n * 4 := by simpa [hl] using hj
  refine ⟨?_, frozen_of_row _ _ _ _ _ hh⟩
  have e := recs_at l (j / 4) (j % 4) (by omega) (by omega)
  have ej : j / 4 * 4 + j % 4 = j := by omega
  rw [ej] at e
  rw [Nat.zero_add, h.cellAt j hj', e, Go.Sort.get_flatK _ _ _ _ hj]
  have e2 : l.toArray[j / 4]! = l.getD (j / 4) r0 := by
    have := arr_get l.toArray (j / 4) (by simp; omega)
    simpa using this
  rw [e2]
  unfold encR
  rcases (by omega : j % 4 = 0 ∨ j % 4 = 1 ∨ j % 4 = 2 ∨ j % 4 = 3) with h | h | h | h <;> rw [h] <;> rfl

theorem holds_lies {w : World} {g : Nat} {d : Array R} (h : Go.Sort.HoldsK encR 4 w g 0 d) (hg : g < w.heap.size) : Lies w (some ⟨g, 0, none⟩) d.size d.toList := by
  refine ⟨by simp, fun _ => ⟨g, 0, rfl, hg, fun j hj => ?_⟩⟩
  have key : ∀ c, c < 4 → w.cell? ⟨g, 0 + j * 4 + c, none⟩ = some (encR (d.toList.getD j r0))[c]! := fun c hc => by
    have := (h.cell (i := j) (c := c) hj hc).1
    rw [arr_get d j hj] at this
    exact this
  exact ⟨key 0 (by omega), key 1 (by omega), key 2 (by omega), key 3 (by omega)⟩

theorem below_sorted {w0 w : World} {B g m : Nat} {d : Array R} {os : Array Obj} (hb : Below B w0 w) (hg : B ≤ g) (hB : B ≤ w.heap.size) : Below B w0 (sortWorldK encR 4 w g 0 m d os) := by
  refine hb.trans ⟨rfl, rfl, rfl, size_sortWorldK_c _ _ _ _ _ _ _ _, fun k hk => ?_⟩
  unfold sortWorldK
  show ((Go.Sort.mapBlock (Go.Sort.ahead w m) g _).heap ++ os)[k]? = w.heap[k]?
  rw [Array.getElem?_append_left (by simp [Go.Sort.mapBlock, Go.Sort.ahead]; omega)]
  show (w.heap.modify g _)[k]? = w.heap[k]?
  rw [Array.getElem?_modify, if_neg (by omega)]

theorem perm_all {n : Nat} {d d' : Array R} (h : Go.Sort.PermIn 0 n d d') (hn : d.size = n) : d'.toList.Perm d.toList ∧ d'.size = n := by
  obtain ⟨h1, _, h2⟩ := h
  subst hn
  have e1 : d'.extract 0 d.size = d' := by rw [← h1]; simp
  have e2 : d.extract 0 d.size = d := by simp
  rw [e1, e2] at h2
  exact ⟨h2, h1⟩

/-- The sort by Since: of a row of one's own. -/
theorem sort_any (v : Value) (m : Nat) (xs : List R) (w w0 : World) (B : Nat) (h : w.ownsRow B 57 4 v m (recs xs)) (hl : xs.length = m) (hm : m ≤ 12) (hb : Below B w0 w) (hB : B ≤ w.heap.size) :
    Calls Try.prog 73 #[v, .func (.func 74) #[] #[]] w fun e w' => e = .returned (.tuple #[]) ∧ ∃ A c ys, v = .slice A m c ∧ Lies w' A m ys ∧ ys.Perm xs ∧ (∀ i j, i < j → j < ys.length → (ys.getD i r0).s ≤ (ys.getD j r0).s) ∧ Below B w0 w' := by
  have h' := h
  rcases h.2 with ⟨rfl, rfl⟩ | ⟨g, cap, cur, rfl, hg, hh, hnc, hcm, _⟩
  · obtain rfl : xs = [] := List.eq_nil_of_length_eq_zero hl
    have := AnyF.slices_SortFunc_none Try.sortRec none 0 (.func (.func 74) #[] #[]) w
    refine Calls.mono this ?_
    rintro e w' ⟨rfl, rfl⟩
    exact ⟨rfl, none, 0, [], rfl, ⟨rfl, fun h => absurd h (by omega)⟩, List.Perm.refl _, fun i j _ hj => absurd hj (by simp), hb⟩
  · have eg : ∀ args w, (callFunc 74 args).run Try.prog w = .ok (.enter 74 args) w := enters_of Try.func74 (by kernel_rfl) rfl
    have hH := own_holds h' hl
    have hglt : g < w.heap.size := row_lt hh
    have hsz : xs.toArray.size = m := by simpa using hl
    have hcon := AnyQ.slices_SortFunc_small_sorted Try.sortRec 4 Try.isAgg57 Try.sizeOf57 encR (fun _ => rfl) (fun x u hu => recs_one [x] u (by simpa [recs, encR] using hu)) cfS 74 #[] swo_s g 0 cap xs.toArray w eg (fun _ _ _ _ x y => since_any x y _) hH hglt (by rw [hsz]; exact hm) hlen12
    rw [hsz] at hcon
    refine Calls.mono hcon ?_
    rintro e w' ⟨rfl, d', q, os, hp, hs, rfl⟩
    obtain ⟨hperm, hsize⟩ := perm_all hp hsz
    have hH' := holdsK_sortWorldK_c encR 4 w g 0 xs.toArray d' q os hH hglt (by rw [hsize, hsz])
    have hsw := size_sortWorldK_c encR 4 w g 0 q d' os
    have hlies := holds_lies hH' (Nat.lt_of_lt_of_le hglt hsw)
    rw [hsize] at hlies
    refine ⟨rfl, _, _, d'.toList, rfl, hlies, by simpa using hperm, fun i j hij hj => ?_, below_sorted hb hg hB⟩
    have hj' : j < m := by simpa [hsize] using hj
    have := hs i j (Nat.zero_le _) hij hj'
    rw [lt_s, arr_get d' i (by omega), arr_get d' j (by omega)] at this
    have := of_decide_eq_false this
    omega

/-- Between two rounds of Line. -/
structure LnR (w : World) (l : List R) (K U i m : Nat) (v : Value) (wr : World) : Prop where
  row : wr.ownsRow w.heap.size 57 4 v m (recs (ln l K U i))
  len : (ln l K U i).length = m
  bl : Below w.heap.size w wr

theorem LnR.below {w wr w' : World} {l : List R} {K U i m : Nat} {v : Value} (h : LnR w l K U i m v wr) (hb : Below wr.heap.size wr w') : LnR w l K U i m v w' :=
  ⟨h.row.kept (row := none) ⟨hb.os, hb.tape, hb.output, hb.size, fun k hk _ => hb.block k hk⟩ (by cases hv : v.ownBlock <;> simp), h.len, h.bl.trans (hb.mono h.bl.size)⟩

theorem LnR.skip {w wr : World} {l : List R} {K U i m : Nat} {v : Value} (h : LnR w l K U i m v wr) (hu : inLine l K U i = false) : LnR w l K U (i + 1) m v wr := by
  have e : ln l K U (i + 1) = ln l K U i := by
    simp only [ln]
    rw [if_neg (by simp [hu])]
  exact ⟨by rw [e]; exact h.row, by rw [e]; exact h.len, h.bl⟩

theorem LnR.more {w wr w3 : World} {l : List R} {K U i m : Nat} {v v' : Value} {r : R} (h : LnR w l K U i m v wr) (hr : l.getD i r0 = r) (hu : inLine l K U i = true) (hown : w3.ownsRow w.heap.size 57 4 v' (m + 1) (recs (ln l K U i) ++ (recC r).toList)) (hg : wr.grownBy w3 v.ownBlock) : LnR w l K U (i + 1) (m + 1) v' w3 := by
  have e : ln l K U (i + 1) = ln l K U i ++ [r] := by
    rw [← hr]
    exact if_pos hu
  exact ⟨by rw [e, recs_snoc]; exact hown, by rw [e]; simp [h.len], h.bl.grown hg h.bl.size (fun g e => (h.row.lt g e).1)⟩

def LineRes (w : World) (l : List R) (K U : Nat) (e : Ending) (w' : World) : Prop :=
  ∃ A m c line, e = .returned (.tuple #[.slice A m c, .int .i64 0]) ∧ Lies w' A m line ∧ IsLine l K U line ∧ Below w.heap.size w w'

set_option maxRecDepth 100000 in
set_option maxHeartbeats 2000000 in
theorem line_any (A : Option Addr) (n c : Nat) (l : List R) (K U : Nat) (w : World) (h : Lies w A n l) (hok : Ok l) (hn : n ≤ 11) (hK : K ≤ 1000000) :
    Calls Try.prog 40 #[.slice A n c, .int .i64 (K : Int), .int .i64 (U : Int)] w (LineRes w l K U) := by
  have hlen := h.len
  have HLI := Lib.hid (fun w' (hw : Below w.heap.size w w') => h.below hw)
  have HCK := Lib.hid (check_any A n c l w h hok)
  have HOK := Lib.hid hok
  have HLN := Lib.hid hlen
  obtain ⟨i0, hi, hz0, hz1, hz2⟩ := info_parts zinfo57
  have HI := Lib.hid hi
  have HI0 := Lib.hid hz0
  have HI1 := Lib.hid hz1
  have HI2 := Lib.hid hz2
  clear hi hz0 hz1 hz2 h hok hlen
  go_enter Try.func40, Try.ntmps40
  go_wp2_with (go_at_call 36; refine HCK.out.mono ?_; rintro e w1 ⟨rfl, hb1⟩; have HB1 := Lib.hid hb1; clear hb1)
  go_loopw [9, 19] (fun v ii wr => ∃ i m : Nat, i ≤ n ∧ m ≤ i ∧ ii = .int .i64 i ∧ LnR w l K U i m v wr) (fun _ ii _ => n - (intOf ii).toNat)
  case atStart => exact ⟨0, 0, by omega, by omega, rfl, World.ownsRow_nil _ _ _ _, rfl, HB1.out⟩
  case round =>
    obtain ⟨i, m, hin, hmi, rfl, hlr⟩ := hrel
    have HLR := Lib.hid hlr
    by_cases hlt : i < n
    · obtain ⟨b, off, rfl, hbk, hc⟩ := (HLI.out _ hlr.bl).at4 (by omega)
      obtain ⟨c0, c1, c2, c3⟩ := hc i hlt
      have hbd := HOK.out.bd i (by rw [HLN.out]; exact hlt)
      have HB2 := Lib.hid (fun o => HLR.out.bl.trans ((box_below wr o).mono HLR.out.bl.size))
      have hsaid := fun o => said_any (some ⟨b, off, none⟩) n c l K U (l.getD i r0).s (wr.alloc o) (HLI.out _ (HB2.out o)) (by omega) hK hbd.2.1
      have hin2 : inLine l K U i = decide (sd l K U (l.getD i r0).s n = i) := by
        unfold inLine
        rw [HLN.out]
      clear hc hlr
      obtain ⟨⟨rk, rs, ru, rv⟩, hr⟩ : ∃ r, l.getD i r0 = r := ⟨_, rfl⟩
      rw [hr] at c0 c1 c2 c3 hsaid hin2 hbd
      dsimp only at c0 c1 c2 c3 hsaid hin2 hbd
      have HR := Lib.hid hr
      clear hr
      generalize sd l K U rs n = z at *
      have HSAID := Lib.hid hsaid
      clear hsaid
      by_cases hz : z = (i : Int)
      · subst hz
        have HIN := Lib.hid (show inLine l K U i = true by rw [hin2]; simp)
        have hm2 : m ≤ 100 := by omega
        clear hin2
        go_wp2_with (first
          | (go_at_call 71; refine (HSAID.out _).mono ?_; rintro e w2 ⟨rfl, hb2⟩; have hrow2 := (hb2.block wr.heap.size (by simp)).trans (heap_alloc_new wr (.cells (recC ⟨rk, rs, ru, rv⟩) 57)); obtain ⟨d0, d1, d2, d3⟩ := recCells w2 _ _ _ hrow2; have HL2 := Lib.hid ((HLR.out.below (box_below wr (.cells (recC ⟨rk, rs, ru, rv⟩) 57))).below hb2); clear hb2 hrow2)
          | (at_builtin; go_loud (refine wpList_append_own _ rfl (.tmp 32) (.tmp 34) 55 rfl w.heap.size 57 i0 _ 4 32 Try.underlying55 HI.out HI0.out HI1.out HI2.out rfl (by decide) _ m (recs (ln l K U i)) rfl (HL2.out.row.alloc _) ⟨w2.heap.size, 0, none⟩ 1 1 (recC ⟨rk, rs, ru, rv⟩).toList rfl rfl (World.news_of_block (heap_alloc_new w2 _)) (fun z hz => recs_one [⟨rk, rs, ru, rv⟩] z (by simpa [recs] using hz)) (by unfold maxLen; omega) (by omega) (by have := HL2.out.bl.size; simp; omega) ?_); intro v' w6 hown hgr _; have HOWN := Lib.hid hown; have HGR := Lib.hid hgr; clear hown hgr))
        have HC := HL2.out.below (box_below w2 (.cells (recC ⟨rk, rs, ru, rv⟩) 57))
        exact ⟨⟨i + 1, m + 1, by omega, by omega, by go_num, HC.more HR.out HIN.out HOWN.out HGR.out⟩, by simp [intOf]; omega⟩
      · have hzb : (z == (i : Int)) = false := beq_eq_false_iff_ne.2 hz
        have HIN := Lib.hid (show inLine l K U i = false by rw [hin2]; simpa using hz)
        clear hin2 hz
        go_wp2_with (go_at_call 71; refine (HSAID.out _).mono ?_; rintro e w2 ⟨rfl, hb2⟩; have HL2 := Lib.hid ((HLR.out.below (box_below wr (.cells (recC ⟨rk, rs, ru, rv⟩) 57))).below hb2); clear hb2)
        exact ⟨⟨i + 1, m, by omega, by omega, by go_num, HL2.out.skip HIN.out⟩, by simp [intOf]; omega⟩
    · obtain rfl : n = i := by omega
      have HS := Lib.hid (sort_any u9 m (ln l K U n) wr w w.heap.size hlr.row hlr.len (by omega) hlr.bl hlr.bl.size)
      clear hlr
      go_wp2_with (go_at_call 73; refine HS.out.mono ?_; rintro e w3 ⟨rfl, B, cb, ys, rfl, hl3, hp, hu, hb3⟩; have HY := Lib.hid hl3; have HP := Lib.hid hp; have HU := Lib.hid hu; have HB3 := Lib.hid hb3; clear hl3 hp hu hb3)
      go_ret2
      exact ⟨B, m, cb, ys, rfl, HY.out, ⟨by rw [HLN.out]; exact HP.out, HU.out⟩, HB3.out⟩

end Go.Proofs.Ytgaliinjjonlmaa.Lg
