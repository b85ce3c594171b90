import Derived.Test.YtgaliinjjonlmaaDtRaw
import Derived.Test.YtgaliinjjonlmaaDtWh
namespace Go.Proofs.Ytgaliinjjonlmaa.Dt
open Go.RowKit
open Go.Proofs.Ytgaliinjjonlmaa.Tp
set_option linter.unusedVariables false

theorem gb_far2 {w wx w9 : World} {T : Nat} {row : Option Nat} (h : w.grownBy wx (some T)) (hg : wx.grownBy w9 row) (hr : ∀ g, row = some g → w.heap.size ≤ g) : w.grownBy w9 (some T) :=
  ⟨hg.os.trans h.os, hg.tape.trans h.tape, hg.output.trans h.output, Nat.le_trans h.size hg.size, fun i hi hne => (hg.block i (Nat.lt_of_lt_of_le hi h.size) (fun e => by have := hr i e.symm; omega)).trans (h.block i hi hne)⟩

/-- While an operation is bent: X is its box. -/
structure Bi (w : World) (T X : Nat) (ps : List (O × Value)) (v : Value) (F S : Int) (d : List Nat) (dv : Value) (wx : World) : Prop where
  row : wx.ownsRow w.heap.size 54 3 v ps.length (ocs ps)
  ne : v.ownBlock ≠ some X
  box : wx.heap[X]? = some (.cells #[.int .i64 F, .int .i64 S, dv] 54 (0, 0))
  by_ : By wx dv d
  dn : ∀ b off n c, dv = .slice (some ⟨b, off, none⟩) n c → w.heap.size ≤ b ∧ v.ownBlock ≠ some b ∧ b ≠ X
  gr : w.grownBy wx (some T)
  tp : TapeOk wx T
  hX : w.heap.size ≤ X

theorem Bi.tape {w wx w1 : World} {T X : Nat} {ps : List (O × Value)} {v : Value} {F S : Int} {d : List Nat} {dv : Value} (h : Bi w T X ps v F S d dv wx) (hT : T < w.heap.size) (hg : wx.grownBy w1 (some T)) (ht : TapeOk w1 T) : Bi w T X ps v F S d dv w1 :=
  ⟨own_next hT h.row hg, h.ne, (hg.block X (lt_of_block h.box) (by have := h.hX; simp; omega)).trans h.box, h.by_.grown hg (fun b off n c e e2 => by
    have := (h.dn b off n c e).1
    have e3 := Option.some.inj e2
    omega), h.dn, gb_trans h.gr hg, ht, h.hX⟩

theorem Bi.data {w wx : World} {T X : Nat} {ps : List (O × Value)} {v : Value} {F S : Int} {d : List Nat} {dv : Value} (h : Bi w T X ps v F S d dv wx) (hT : T < w.heap.size) :
    Bi w T X ps v F S [122] (.slice (some ⟨wx.heap.size, 0, none⟩) 1 1) ((wx.alloc (.cells #[.int .u8 122] 5 (1, 2))).setCell ⟨X, 2, none⟩ (.slice (some ⟨wx.heap.size, 0, none⟩) 1 1)) := by
  have hXl := lt_of_block h.box
  have hb := box_below wx (.cells #[.int .u8 122] 5 (1, 2))
  have hbx := (hb.block X hXl).trans h.box
  have hws := h.gr.size
  refine ⟨ownsRow_setCell_other (h.row.alloc _) h.ne _, h.ne, heap_setCell_same _ _ _ _ _ _ hbx, ?_, fun b off n c e => ?_, ?_, ?_, h.hX⟩
  · have h1 : ((wx.alloc (.cells #[.int .u8 122] 5 (1, 2))).setCell ⟨X, 2, none⟩ (.slice (some ⟨wx.heap.size, 0, none⟩) 1 1)).heap[wx.heap.size]? = some (.cells #[.int .u8 122] 5 (1, 2)) := by
      rw [heap_setCell_other _ _ _ _ (show wx.heap.size ≠ X by omega)]
      exact heap_alloc_new _ _
    refine ⟨by simp, .inr ⟨wx.heap.size, 0, 1, rfl, by simp, by unfold maxLen; omega, row_lt h1, fun j hj => ?_⟩⟩
    have hj : j < 1 := hj
    obtain rfl : j = 0 := by omega
    rw [cell_of_row _ _ _ _ _ _ h1]
    rfl
  · cases e
    refine ⟨hws, fun e2 => ?_, by omega⟩
    have := (h.row.lt _ e2).2
    omega
  · exact gb_far2 (gb_trans h.gr (World.grownBy_alloc _ _ _)) (gb_set _ _ _ _) (fun g e => by cases e; exact h.hX)
  · exact (h.tp.kept (World.grownBy_alloc wx _ none) (by simp)).kept (gb_set _ _ _ _) (fun g e => by cases e; have := h.hX; show T < X; omega)

theorem Bi.size {w wx : World} {T X : Nat} {ps : List (O × Value)} {v : Value} {F S S' : Int} {d : List Nat} {dv : Value} (h : Bi w T X ps v F S d dv wx) (hT : T < w.heap.size) :
    Bi w T X ps v F S' d dv (wx.setCell ⟨X, 1, none⟩ (.int .i64 S')) := by
  refine ⟨ownsRow_setCell_other h.row h.ne _, h.ne, heap_setCell_same _ _ _ _ _ _ h.box, h.by_.grown (gb_set _ _ _ _) (fun b off n c e e2 => ?_), h.dn, ?_, ?_, h.hX⟩
  · have := (h.dn b off n c e).2.2
    have e3 := Option.some.inj e2
    omega
  · exact gb_far2 h.gr (gb_set _ _ _ _) (fun g e => by cases e; exact h.hX)
  · exact h.tp.kept (gb_set _ _ _ _) (fun g e => by cases e; have := h.hX; show T < X; omega)

theorem Bi.alloc {w wx : World} {T X : Nat} {ps : List (O × Value)} {v : Value} {F S : Int} {d : List Nat} {dv : Value} (h : Bi w T X ps v F S d dv wx) (o : Obj) : Bi w T X ps v F S d dv (wx.alloc o) :=
  ⟨h.row.alloc _, h.ne, ((box_below wx o).block X (lt_of_block h.box)).trans h.box, h.by_.below (box_below wx o), h.dn, gb_trans h.gr (World.grownBy_alloc _ _ _), h.tp.kept (World.grownBy_alloc wx _ none) (by simp), h.hX⟩

/-- A row of operations, the last of any numbers. -/
theorem rlies_of {wr : World} {B : Nat} {ps : List (O × Value)} {v dv : Value} {x : R} (hrow : wr.ownsRow B 54 3 v (ps.length + 1) (ocs ps ++ [.int .i64 x.f, .int .i64 x.s, dv])) (hby' : ∀ p ∈ ps, By wr p.2 p.1.d) (hd : Rb wr dv x.d) :
    ∃ A c, v = .slice A (ps.length + 1) c ∧ RLies wr A (ps.length + 1) (ps.map (fun p => raw p.1) ++ [x]) (ps.map (·.2) ++ [dv]) := by
  have h := hrow
  have hg1 : ∀ j, (hj : j < ps.length) → (ps.map (fun p => raw p.1) ++ [x]).getD j r0 = raw ((ps.map (·.1)).getD j o0) ∧ (ps.map (·.2) ++ [dv]).getD j undef = (ps.map (·.2)).getD j undef := fun j hj => by
    constructor <;> simp [List.getD_eq_getElem?_getD, List.getElem?_append, hj]
  have hg2 : (ps.map (fun p => raw p.1) ++ [x]).getD ps.length r0 = x ∧ (ps.map (·.2) ++ [dv]).getD ps.length undef = dv := by
    constructor <;> simp [List.getD_eq_getElem?_getD]
  have hby : ∀ j, j < ps.length + 1 → Rb wr ((ps.map (·.2) ++ [dv]).getD j undef) ((ps.map (fun p => raw p.1) ++ [x]).getD j r0).d := by
    intro j hj
    by_cases e : j = ps.length
    · subst e
      rw [hg2.1, hg2.2]
      exact hd
    · have hj2 : j < ps.length := by omega
      rw [(hg1 j hj2).1, (hg1 j hj2).2]
      have := (hby' ps[j] (List.getElem_mem hj2)).rb
      simpa [raw, List.getD_eq_getElem?_getD, hj2] using this
  rcases h.2 with ⟨rfl, e⟩ | ⟨g, cap, cur, rfl, hb, hh, hnc, hcm, _⟩
  · omega
  · refine ⟨_, _, rfl, ⟨by simp, by simp, fun h0 => ⟨g, 0, rfl, row_lt hh, fun j hj => ?_⟩, hby⟩⟩
    rw [Nat.zero_add]
    by_cases e : j = ps.length
    · subst e
      rw [hg2.1, hg2.2]
      have hl := ocs_len ps
      refine ⟨?_, ?_, ?_⟩
      · rw [hrow.cellAt _ (by omega), List.getElem?_append_right (by omega), hl, Nat.sub_self]
        rfl
      · rw [hrow.cellAt _ (by omega), List.getElem?_append_right (by omega), hl, Nat.add_sub_cancel_left]
        rfl
      · rw [hrow.cellAt _ (by omega), List.getElem?_append_right (by omega), hl, Nat.add_sub_cancel_left]
        rfl
    · have hj2 : j < ps.length := by omega
      have hl := ocs_len ps
      obtain ⟨a1, a2, a3⟩ := ocs_at ps j hj2
      rw [(hg1 j hj2).1, (hg1 j hj2).2]
      exact ⟨by rw [hrow.cellAt (j * 3) (by omega), List.getElem?_append_left (by omega), a1]; rfl, by rw [hrow.cellAt (j * 3 + 1) (by omega), List.getElem?_append_left (by omega), a2]; rfl, by rw [hrow.cellAt (j * 3 + 2) (by omega), List.getElem?_append_left (by omega), a3]⟩


set_option maxRecDepth 100000 in
set_option maxHeartbeats 2000000 in
theorem bent_any (T B : Nat) (w : World) (ps : List (O × Value)) (pv : Value) (hrow : w.ownsRow B 54 3 pv ps.length (ocs ps)) (hby : ∀ p ∈ ps, By w p.2 p.1.d) (hne : ∀ p ∈ ps, ∀ b off n c, p.2 = .slice (some ⟨b, off, none⟩) n c → b ≠ T) (hlen : ps.length ≤ 20) (h : TapeOk w T) (hT : T < w.heap.size) :
    Calls Try.prog 18 #[.pointer (some ⟨T, 0, none⟩), pv] w fun e w' => ∃ x dv A c, e = .returned (.slice A (ps.length + 1) c) ∧ RLies w' A (ps.length + 1) (ps.map (fun p => raw p.1) ++ [x]) (ps.map (·.2) ++ [dv]) ∧ x.d.length ≤ 1 ∧ w.grownBy w' (some T) ∧ TapeOk w' T := by
  obtain ⟨i0, hi, hz0, hz1, hz2⟩ := info_parts5 zinfo54
  have HI := Lib.hid hi
  have HI0 := Lib.hid hz0
  have HI1 := Lib.hid hz1
  have HI2 := Lib.hid hz2
  have HROW := Lib.hid hrow
  have HBY := Lib.hid hby
  have HNE := Lib.hid hne
  have HTP := Lib.hid h
  clear hi hz0 hz1 hz2 hrow hby hne h
  go_enter Try.func18, Try.ntmps18
  go_wp2_with (at_builtin; refine append_ops rfl (.tmp 7) (.tmp 8) rfl w.heap.size B (.slice (some ⟨w.heap.size, 0, none⟩) 0 0) pv [] ps rfl rfl (World.ownsRow_lit w #[] 0 (Nat.le_refl _) (by unfold maxLen; omega) rfl) (HROW.out.alloc _) (fun p hp => (HBY.out p hp).below (box_below w _)) (by simp; omega) (by simp) ?_; intro v1 w1 own1 gr1; have HO1 := Lib.hid own1; have HG1 := Lib.hid (show w.grownBy w1 (some T) from gb_far2 (gb_row (World.grownBy_alloc w _ none)) gr1 (fun g e => by simp [Value.ownBlock] at e; omega)); have HT1 := Lib.hid ((HTP.out.kept (World.grownBy_alloc w _ none) (by simp)).kept gr1 (fun g e => by simp [Value.ownBlock] at e; omega)); clear own1 gr1)
  refine (between_any T (-1) 30 _ HT1.out (by omega) (by omega) (by omega) (by omega)).mono ?_
  rintro e w2 ⟨F, hF0, hF1, rfl, hg2, ht2⟩
  have hs1 := HG1.out.size
  have HO2 := Lib.hid (own_next hT HO1.out hg2)
  have HG2 := Lib.hid (gb_trans HG1.out hg2)
  have HT2 := Lib.hid ht2
  clear hg2 ht2
  go_wp2_with fail
  refine (between_any T (-1) 30 _ HT2.out (by omega) (by omega) (by omega) (by omega)).mono ?_
  rintro e w3 ⟨S, hS0, hS1, rfl, hg3, ht3⟩
  have hs2 := HG2.out.size
  have ho3 := own_next hT HO2.out hg3
  have hs3 := (gb_trans HG2.out hg3).size
  rw [List.nil_append] at ho3
  have hbi : Bi w T w3.heap.size ps v1 F S [] (.slice none 0 0) (w3.alloc (.cells #[.int .i64 F, .int .i64 S, .slice none 0 0] 54)) :=
    ⟨ho3.alloc _, fun e => by have := (ho3.lt _ e).2; omega, heap_alloc_new _ _, ⟨by simp, .inl ⟨rfl, rfl⟩⟩, (fun _ _ _ _ e => by cases e), gb_trans (gb_trans HG2.out hg3) (World.grownBy_alloc _ _ _), ht3.kept (World.grownBy_alloc w3 _ none) (by simp), hs3⟩
  obtain ⟨X, hX⟩ : ∃ X, w3.heap.size = X := ⟨_, rfl⟩
  rw [hX] at hbi
  have HBI := Lib.hid hbi
  have HX := Lib.hid hX
  clear hbi hX ho3 hg3 ht3 HO1 HO2 HG1 HG2 HT1 HT2
  go_wp2_with fail
  rw [HX.out]
  refine (next_any T 4 _ HBI.out.tp (by omega) (by omega)).mono ?_
  rintro e w4 ⟨r, hr0, hr1, rfl, hg4, ht4⟩
  have HBI4 := Lib.hid (HBI.out.tape hT hg4 ht4)
  clear hg4 ht4 HBI
  go_upto_if 17 with fail
  go_cut [5] from 12 to 20 (fun s5 wx => s5 = v1 ∧ ∃ d dv, d.length ≤ 1 ∧ Bi w T X ps v1 F S d dv wx)
  case first =>
    by_cases h0 : r = 0
    · subst h0
      have hcv : (convert 23 23 (.slice (some ⟨w4.heap.size, 0, none⟩) 1 1)).run Try.prog (w4.alloc (.cells #[.int .u8 122] 5)) = .ok (.slice (some ⟨w4.heap.size, 0, none⟩) 1 1) (w4.alloc (.cells #[.int .u8 122] 5 (1, 2))) := Lib.run_convert_bytes_const w4 23 5 #[.int .u8 122] 1 1 Try.underlying23 Try.underlying5
      have hbx := ((box_below w4 (.cells #[.int .u8 122] 5 (1, 2))).block X (lt_of_block HBI4.out.box)).trans HBI4.out.box
      have c2 : (w4.alloc (.cells #[.int .u8 122] 5 (1, 2))).cell? ⟨X, 2, none⟩ = some (.slice none 0 0) := by rw [cell_of_row _ _ _ _ _ _ hbx]; rfl
      have f2 : (w4.alloc (.cells #[.int .u8 122] 5 (1, 2))).frozen? ⟨X, 2, none⟩ = false := frozen_of_row _ _ _ _ _ hbx
      have HD := Lib.hid (HBI4.out.data hT)
      clear hbx
      go_wp2_with fail
      go_meet
      case rel => exact ⟨rfl, _, _, by simp, HD.out⟩
    · go_wp2_with fail
      go_meet
      case rel => exact ⟨rfl, _, _, by simp, HBI4.out⟩
  case rest =>
  obtain ⟨e5, d, dv, hdl, hb5⟩ := hcut
  have e5' := e5.symm
  subst e5'
  clear e5
  have HB5 := Lib.hid hb5
  clear hb5 HBI4
  go_wp2_with fail
  refine (next_any T 8 _ HB5.out.tp (by omega) (by omega)).mono ?_
  rintro e w6 ⟨r2, hr20, hr21, rfl, hg6, ht6⟩
  have HB6 := Lib.hid (HB5.out.tape hT hg6 ht6)
  clear hg6 ht6 HB5
  go_upto_if 23 with fail
  go_cut [5] from 21 to 29 (fun s5 wx => s5 = v1 ∧ ∃ S', Bi w T X ps v1 F S' d dv wx)
  case first =>
    by_cases h0 : r2 = 0
    · subst h0
      have HB7 := Lib.hid (HB6.out.alloc (.cells #[.int .i64 65536, .int .i64 65537, .int .i64 9223372036854775807, .int .i64 (-9223372036854775808)] 3))
      have hY := heap_alloc_new w6 (.cells #[.int .i64 65536, .int .i64 65537, .int .i64 9223372036854775807, .int .i64 (-9223372036854775808)] 3)
      have HY := Lib.hid hY
      have hYT : w6.heap.size ≠ T := by have := HB6.out.gr.size; omega
      clear hY
      go_wp2_with fail
      refine (next_any T 4 _ HB7.out.tp (by omega) (by omega)).mono ?_
      rintro e w8 ⟨q, hq0, hq1, rfl, hg8, ht8⟩
      obtain ⟨q, rfl⟩ : ∃ m : Nat, q = m := ⟨q.toNat, by omega⟩
      have HB8 := Lib.hid (HB7.out.tape hT hg8 ht8)
      have hY8 := (hg8.block w6.heap.size (by simp) (by simpa using hYT)).trans HY.out
      have hcell : ∃ z, w8.cell? ⟨w6.heap.size, q, none⟩ = some (.int .i64 z) := by
        rcases (by omega : q = 0 ∨ q = 1 ∨ q = 2 ∨ q = 3) with rfl | rfl | rfl | rfl <;> exact ⟨_, by rw [cell_of_row _ _ _ _ _ _ hY8]; rfl⟩
      obtain ⟨z, hz⟩ := hcell
      have c1 : w8.cell? ⟨X, 1, none⟩ = some (.int .i64 S) := by rw [cell_of_row _ _ _ _ _ _ HB8.out.box]; rfl
      have f1 : w8.frozen? ⟨X, 1, none⟩ = false := frozen_of_row _ _ _ _ _ HB8.out.box
      have HB9 := Lib.hid (HB8.out.size (S' := z) hT)
      clear hg8 ht8 hY8
      go_wp2_with fail
      go_meet
      case rel => exact ⟨rfl, _, HB9.out⟩
    · go_wp2_with fail
      go_meet
      case rel => exact ⟨rfl, _, HB6.out⟩
  case rest =>
  obtain ⟨e5, S', hb9⟩ := hcut
  have e5' := e5.symm
  subst e5'
  clear e5
  have HB9 := Lib.hid hb9
  have hbx := hb9.box
  obtain ⟨c0, c1, c2⟩ := opCells _ _ _ _ _ _ _ hbx
  obtain ⟨D, kd, hdv⟩ : ∃ D k, dv = .slice D d.length k := hb9.by_.form
  subst hdv
  clear hb9 hbx HB6
  go_wp2_with (at_builtin; refine wpList_append_own _ rfl (.tmp 30) (.tmp 32) 24 rfl w.heap.size 54 i0 _ 3 40 Try.underlying24 HI.out HI0.out HI1.out HI2.out rfl (by decide) v1 ps.length (ocs ps) rfl (HB9.out.row.alloc _) ⟨wc.heap.size, 0, none⟩ 1 1 [.int .i64 F, .int .i64 S', .slice D d.length kd] rfl rfl (World.news_of_block (cs := #[.int .i64 F, .int .i64 S', .slice D d.length kd]) (heap_alloc_new _ _)) (by simp [Value.oneCell']) (by unfold maxLen; omega) (by omega) (by have := HB9.out.gr.size; simp; omega) ?_; intro v' w9 hown hgr _; have HOWN := Lib.hid hown; have HGR := Lib.hid hgr; clear hown hgr)
  go_ret
  have ha := HB9.out.alloc (.cells #[.int .i64 F, .int .i64 S', .slice D d.length kd] 54)
  have hfar : ∀ g, v1.ownBlock = some g → w.heap.size ≤ g := fun g e => (HB9.out.row.lt g e).1
  have hgall : w.grownBy w9 (some T) := gb_far2 ha.gr HGR.out hfar
  obtain ⟨A, c, e, hl⟩ := rlies_of (x := ⟨F, S', d⟩) HOWN.out (fun p hp => (HBY.out p hp).grown hgall (fun b off n c e e2 => HNE.out p hp b off n c e (Option.some.inj e2).symm)) (ha.by_.grown HGR.out (fun b off n c e => (ha.dn b off n c e).2.1)).rb
  subst e
  exact ⟨⟨F, S', d⟩, _, A, c, rfl, hl, hdl, hgall, ha.tp.kept HGR.out (fun g e => by have := hfar g e; omega)⟩

end Go.Proofs.Ytgaliinjjonlmaa.Dt
