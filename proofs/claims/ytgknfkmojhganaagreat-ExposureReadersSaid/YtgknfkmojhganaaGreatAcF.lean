import Derived.Test.YtgknfkmojhganaaGreatAcE
import Derived.Sort.OwnSorted
namespace Go.Proofs.YtgknfkmojhganaaGreat.Di
open Go.RowKit Go.Maps
open Go.Proofs.YtgknfkmojhganaaGreat.Tp
set_option linter.unusedVariables false

theorem row_ne_map {P : Program} {k : TypeId} {R : Value → Option (DataW Unit × List MemPlace)} {w : World} {b n : Nat} {D : DataW Unit} {base e size m : Nat} {v : Value} {xs : List Value} (h : w.ownsRow base e size v m xs) (hr : w.ownsMap P k R b n D) : some b ≠ v.ownBlock := by
  obtain ⟨es, clock, hb, _⟩ := hr
  rcases h.2 with ⟨rfl, _⟩ | ⟨g, cap, cur, rfl, _, hh, _⟩
  · simp [Value.ownBlock]
  · intro e1
    have : b = g := by simpa [Value.ownBlock] using e1
    subst this
    rw [hb] at hh
    cases hh
theorem sm_none (w w' : World) (p : Nat → Bool) (n : Nat) (h : ∀ r, p r = false) (hb : Below w.heap.size w w') : SmPost p n w (.returned (.slice none 0 0)) w' := by
  obtain ⟨h1, h2⟩ := idx_none h n
  unfold SmPost
  rw [h1, h2]
  exact ⟨none, 0, rfl, own_nil _ _ _ _, hb⟩
set_option maxRecDepth 100000 in
set_option maxHeartbeats 1000000 in
theorem granted_no (a : Es) (v : Ve) (p t : Int) (w : World) (h : EL w 0 a v) (he : ¬ exP a p) :
    Calls Tryz.prog 61 #[.agg (ge a v), .int .i64 p, .int .i64 t] w (SmPost (gdB a p t) 24 w) := by
  have HB0 := Lib.hid (box_below w (.cells (ge a v) 28))
  have HR0 := Lib.hid (heap_alloc_new w (.cells (ge a v) 28))
  obtain ⟨c0, c1⟩ := geCells HR0.out
  have HF := Lib.hid (show (#[.int .i64 a.n, .slice v.A a.e.length v.c] : Array Value) = ge a v from rfl)
  have HX := Lib.hid (ex_no a v p _ (Row.below h HB0.out) he)
  have HS := Lib.hid (fun w' hb => sm_none w w' (gdB a p t) 24 (gdB_no he t) hb)
  clear h he
  go_enter Tryz.func61, Tryz.ntmps61
  go_wp2_with (go_at_call 87; rw [HF.out]; refine HX.out.mono ?_; rintro e w1 ⟨rfl, hb1⟩; have HB1 := Lib.hid (HB0.out.trans (hb1.mono HB0.out.size)); clear hb1 c0 c1)
  go_ret
  exact HS.out _ HB1.out

set_option maxRecDepth 100000 in
set_option maxHeartbeats 2000000 in
theorem granted_yes (a : Es) (v : Ve) (p t : Int) (w : World) (h : EL w 0 a v) (he : exP a p) :
    Calls Tryz.prog 61 #[.agg (ge a v), .int .i64 p, .int .i64 t] w (SmPost (gdB a p t) 24 w) := by
  have HB0 := Lib.hid (box_below w (.cells (ge a v) 28))
  have HR0 := Lib.hid (heap_alloc_new w (.cells (ge a v) 28))
  obtain ⟨c0, c1⟩ := geCells HR0.out
  have HF := Lib.hid (show (#[.int .i64 a.n, .slice v.A a.e.length v.c] : Array Value) = ge a v from rfl)
  have HX := Lib.hid (ex_yes a v p _ (Row.below h HB0.out) he)
  have HG := Lib.hid (fun w' (hb : Below w.heap.size w w') => grants_any a v p t w' (Row.below h hb) he.1)
  have HGB := Lib.hid (fun r => gdB_yes he t r)
  have HHAS := Lib.hid (fun r : Nat => gm_has a.e p t (r : Int) a.e.length)
  have HRNG := Lib.hid (fun (r : Int) (hh : Maps.has (gm a.e p t a.e.length) (.int .i64 r) = true) => (by
    rw [gm_has] at hh
    obtain ⟨i, hi⟩ := Option.isSome_iff_exists.1 hh
    exact he.1.gr_rng hi : 0 ≤ r ∧ r < 24))
  obtain ⟨i0, hi1, hz0, hz1, hz2⟩ := info_parts zinfo3
  have HI := Lib.hid hi1
  have HI0 := Lib.hid hz0
  have HI1 := Lib.hid hz1
  have HI2 := Lib.hid hz2
  clear h he hi1 hz0 hz1 hz2
  have HGM := Lib.hid (show gm a.e p t a.e.length = gm a.e p t a.e.length from rfl)
  go_enter Tryz.func61, Tryz.ntmps61
  go_wp2_with (first
    | (go_at_call 87; rw [HF.out]; refine HX.out.mono ?_; rintro e w1 ⟨rfl, hb1⟩; have HB1 := Lib.hid (HB0.out.trans (hb1.mono HB0.out.size)); have M1 := Lib.hid ((hb1.block _ (row_lt HR0.out)).trans HR0.out); clear hb1 c0 c1; obtain ⟨c0, c1⟩ := geCells M1.out)
    | (go_at_call 94; rw [HF.out]; refine (HG.out _ HB1.out).mono ?_; rintro e w2 ⟨b, rfl, hown, hbb, hb2⟩; have HB2 := Lib.hid (HB1.out.trans (hb2.mono HB1.out.size)); have HBB := Lib.hid (show w.heap.size ≤ b from Nat.le_trans HB1.out.size hbb); have HO := Lib.hid hown; clear hown hb2 hbb c0 c1)
    | (at_range; refine wpList_range_own _ rfl _ 115 rfl 3 3 law3 Tryz.underlying115 _ b 120 _ rfl HO.out ?_; intro w3 hrg hg3 hs3; have HRG := Lib.hid hrg; have HB3 := Lib.hid (HB2.out.grown hg3 HB2.out.size (fun k e => by cases e)); clear hrg hg3 hs3))
  generalize gm a.e p t a.e.length = D at *
  have HW2 := Lib.hid HB2.out.size
  go_frame
  generalize w2.heap.size = R at *
  go_loopw [7, 18] (fun ov _ wr => ∃ (left : Lit → Bool) (cnt : Nat) (L : List Nat), wr.ranges Tryz.prog 3 (plainElem (H := Unit) Tryz.prog 3) b R 120 D left cnt ∧ wr.ownsRow w.heap.size 3 1 ov L.length (iv L) ∧ Coll D left L ∧ Below w.heap.size w wr) (fun _ _ wr => wr.rangeLeft b R)
  case atStart => exact ⟨_, _, [], HRG.out, own_nil _ _ _ _, Coll.start D, HB3.out⟩
  case round =>
    obtain ⟨left, cn, L, hrg, hown, hcol, hbl⟩ := hrel
    have HRGR := Lib.hid hrg
    have HOWN := Lib.hid hown
    have HCOL := Lib.hid hcol
    have HBL := Lib.hid hbl
    have HLL := Lib.hid (nodup_le 24 L hcol.nd (fun x hx => by have := HRNG.out x ((hcol.mem x).1 hx).1; omega))
    have hlen := HLL.out
    have HN1 := Lib.hid (row_ne_map hown hrg.owns)
    have HN2 := Lib.hid (row_ne_iter hown hrg)
    clear hrg hown hcol hbl HRG
    go_wp2_with (at_next; refine wpList_next_ranges_ii _ rfl _ rfl 3 3 .i64 .i64 law3 Tryz.underlying3 Tryz.underlying3 b R 120 D left cn rfl HRGR.out ?_ ?_)
    · intro hc0 hl0
      have HFIN := Lib.hid (HCOL.out.fin hl0)
      have HP := Lib.hid (idx_perm (p := gdB a p t) (n := 24) HCOL.out.nd (fun r => by
        rw [HFIN.out, HGB.out]
        show _ ↔ r < 24 ∧ (gr a.e p t (r : Int) a.e.length).isSome = true
        rw [← HHAS.out]
        exact ⟨fun h => ⟨by have := HRNG.out _ h; omega, h⟩, fun h => h.2⟩))
      have HSO := Lib.hid (sort_own w.heap.size L.length u7 L (idx (gdB a p t) 24) wr HOWN.out HP.out ((idx_sorted _ _).imp (fun h => by omega)) (by omega))
      have HCN := Lib.hid (show L.length = cnt (gdB a p t) 24 by rw [← idx_len]; exact HP.out.length_eq.symm)
      clear hc0 hl0
      go_wp2_with (go_at_call 109; refine HSO.out.mono ?_; rintro e w5 ⟨rfl, hown5, hg5⟩; have HO5 := Lib.hid hown5; have B5 := Lib.hid (HBL.out.grown hg5 HBL.out.size (fun g e => (HOWN.out.lt g e).1)); clear hown5 hg5)
      go_ret
      obtain ⟨A, cc, e5⟩ := own_form HO5.out
      have h5 := HO5.out
      rw [HCN.out] at h5 e5
      exact ⟨A, cc, by rw [← e5]; first | rfl | simp, by rw [← e5]; exact h5, B5.out⟩
    · intro x c w2 cnt1 hwx hwc hlx hat hrg1 hlt hg1 hs1 hen
      have hh : Maps.has D (.int .i64 x) = true := has_true_of_atKey hat
      obtain ⟨x0, x24⟩ := HRNG.out x hh
      obtain ⟨y, rfl⟩ : ∃ y : Nat, x = y := ⟨x.toNat, by omega⟩
      have HC2 := Lib.hid (HCOL.out.step hlx hh)
      have O2 := Lib.hid (HOWN.out.kept hg1 (Or.inr HN2.out.symm))
      have HR1 := Lib.hid hrg1
      have B2 := Lib.hid (HBL.out.grown hg1 HBL.out.size (fun j hj => by cases hj; exact HW2.out))
      have HLT := Lib.hid hlt
      have HNN1 := Lib.hid (row_ne_map O2.out hrg1.owns)
      have HNN2 := Lib.hid (row_ne_iter O2.out hrg1)
      have HIS := Lib.hid (iv_snoc L y)
      clear hwx hwc hlx hat hrg1 hlt hg1 hs1 hh
      go_wp2_with (at_builtin; refine wpList_append_own _ rfl (.tmp 22) (.tmp 24) 22 rfl w.heap.size 3 i0 (.int .i64 0) 1 8 Tryz.underlying22 HI.out HI0.out HI1.out HI2.out rfl (by decide) _ L.length (iv L) rfl (O2.out.alloc _) ⟨w2.heap.size, 0, none⟩ 1 1 [.int .i64 (y : Int)] rfl rfl (World.news_of_block (heap_alloc_new w2 _)) (by simp [Value.oneCell']) (by unfold maxLen; omega) (by omega) (by have := B2.out.size; simp; omega) ?_; intro v' w6 hown6 hgr _; have O6 := Lib.hid hown6; have R6 := Lib.hid ((HR1.out.alloc _).kept hgr HNN1.out HNN2.out); have B6 := Lib.hid (far_below B2.out O2.out hgr (Nat.le_refl _)); clear hown6 hgr)
      refine ⟨⟨_, cnt1, L ++ [y], R6.out, by rw [HIS.out, List.length_append]; exact O6.out, HC2.out, B6.out⟩, ?_⟩
      rw [R6.out.left_eq, HRGR.out.left_eq]
      exact HLT.out

theorem granted_any (a : Es) (v : Ve) (p t : Int) (w : World) (h : EL w 0 a v) :
    Calls Tryz.prog 61 #[.agg (ge a v), .int .i64 p, .int .i64 t] w (SmPost (gdB a p t) 24 w) := by
  by_cases he : exP a p
  · exact granted_yes a v p t w h he
  · exact granted_no a v p t w h he

/-- The times of a list of events. -/
def tl (l : List Ac) : List Nat := l.map fun x => x.t.toNat
theorem tl_len (l : List Ac) : (tl l).length = l.length := by simp [tl]
theorem tl_at (l : List Ac) {k : Nat} (h : k < l.length) : (tl l).getD k 0 = (ag l k).t.toNat := by
  unfold tl ag
  simp [List.getD_eq_getElem?_getD, h]
theorem tl_take (l : List Ac) {k : Nat} (h : k < l.length) : (tl l).take (k + 1) = (tl l).take k ++ [(ag l k).t.toNat] := by
  rw [List.take_succ_eq_append_getElem (by rw [tl_len]; exact h)]
  congr 2
  rw [← tl_at l h, List.getD_eq_getElem?_getD, List.getElem?_eq_getElem (by rw [tl_len]; exact h)]; rfl
/-- What Times answers. -/
noncomputable def tms (a : Es) : List Nat := @ite _ (Eok a) (Classical.propDecidable _) (dk (tl a.e) a.e.length) []
theorem tms_ok {a : Es} (h : Eok a) : tms a = dk (tl a.e) a.e.length := if_pos h
theorem tms_no {a : Es} (h : ¬ Eok a) : tms a = [] := if_neg h
theorem mem_tms {a : Es} (h : Eok a) (r : Nat) : r ∈ tms a ↔ ∃ j, j < a.e.length ∧ (ag a.e j).t = (r : Int) := by
  rw [tms_ok h, dk_mem]
  constructor
  · rintro ⟨j, h1, h2⟩
    rw [tl_at _ h1] at h2
    exact ⟨j, h1, by have := (h.e j h1).1; omega⟩
  · rintro ⟨j, h1, h2⟩
    exact ⟨j, h1, by rw [tl_at _ h1]; omega⟩
theorem tms_len (a : Es) : (tms a).length ≤ 120 := by
  by_cases h : Eok a
  · rw [tms_ok h]
    have := dk_len (tl a.e) a.e.length
    have := h.m
    omega
  · rw [tms_no h]; simp
def TmPost (a : Es) (w : World) (e : Ending) (w' : World) : Prop := ∃ A cc, e = .returned (.slice A (tms a).length cc) ∧ w'.ownsRow w.heap.size 3 1 (.slice A (tms a).length cc) (tms a).length (iv (tms a)) ∧ Below w.heap.size w w'
end Go.Proofs.YtgknfkmojhganaaGreat.Di
