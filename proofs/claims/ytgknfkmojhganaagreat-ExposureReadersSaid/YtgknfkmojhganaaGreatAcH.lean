import Derived.Test.YtgknfkmojhganaaGreatAcG
import Derived.Test.YtgknfkmojhganaaGreatAcL
namespace Go.Proofs.YtgknfkmojhganaaGreat.Di
open Go.RowKit Go.Shelf
open Go.Proofs.YtgknfkmojhganaaGreat.Tp
set_option linter.unusedVariables false
attribute [local go_sem] Oper.semAt_some

/-- How a round leaves: an event decides. -/
def LkX (l : List Ac) (p t : Int) (G : Nat) (pre : List Nat) (W : World) : Prop := ∃ (ini : List Nat) (last : Nat) (o : Option Nat), pre = ini ++ [last] ∧ (∀ j ∈ ini, psP l p t j) ∧ ¬ t < (ag l last).t ∧ (ag l last).p = p ∧ (((ag l last).k = 4 ∧ o = none) ∨ ((ag l last).k = 3 ∧ t < (ag l last).u ∧ o = some last)) ∧
  W.cell? ⟨G + 1 + 1 + 1, 0, none⟩ = some (.int .i64 (on o)) ∧ W.cell? ⟨G + 1 + 1 + 1 + 1, 0, none⟩ = some (.bool o.isSome)
set_option maxRecDepth 100000 in
set_option maxHeartbeats 4000000 in
theorem linked_in (a : Es) (v : Ve) (p t : Int) (w : World) (h : EL w 0 a v) (he : exP a p) :
    CallsIn Fence.wide 4 Tryz.prog 46 #[.agg (ge a v), .int .i64 p, .int .i64 t] w fun e w' => e = .returned (.tuple #[.int .i64 (on (lkA a.e p t)), .bool (lkA a.e p t).isSome]) ∧ Below w.heap.size w w' := by
  obtain ⟨A, vc⟩ := v
  have hlen := he.1.m
  have HX := Lib.hid (fun w' (hb : Below w.heap.size w w') => ex_yes a ⟨A, vc⟩ p w' (Row.below h hb) he)
  have HD := Lib.hid h
  have HF := Lib.hid (show (#[.int .i64 a.n, .slice A a.e.length vc] : Array Value) = ge a ⟨A, vc⟩ from rfl)
  obtain ⟨b0, b1, b2, b3, b4, b5, b6⟩ := boxes5 w (.cells (ge a ⟨A, vc⟩) 28) (.cells #[.int .i64 p] 3) (.cells #[.int .i64 t] 3) (.cells #[.int .i64 0] 3) (.cells #[.bool false] 4)
  have B0 := Lib.hid b0
  have B1 := Lib.hid b1
  have B2 := Lib.hid b2
  have B3 := Lib.hid b3
  have B4 := Lib.hid b4
  have B5 := Lib.hid b5
  obtain ⟨c0, c1⟩ := geCells b0
  have d1 := cell_of_row _ _ 0 _ _ _ b1
  clear b0 b1 b2 b3 b4 b5 b6 h he
  refine callsIn_of_wp_marks Tryz.func46 rfl trivial ?_ rfl
  simp only [Tryz.ntmps46, List.size_toArray, List.length_cons, List.length_nil, Nat.reduceAdd, Nat.reduceSub, Array.replicate_succ, Array.replicate_zero, List.push_toArray, List.append_toArray, List.nil_append, List.cons_append]
  gi_wp2_with (first
    | (refine ⟨trivial, ?_⟩; gi_at_call 87; rw [HF.out]; refine (callsIn_wide.2 (HX.out _ B5.out)).mono ?_; rintro e w1 ⟨rfl, hb1⟩; have HB1 := Lib.hid (B5.out.trans (hb1.mono B5.out.size)); have M0 := Lib.hid ((hb1.block _ (row_lt B0.out)).trans B0.out); have M1 := Lib.hid ((hb1.block _ (row_lt B1.out)).trans B1.out); have M2 := Lib.hid ((hb1.block _ (row_lt B2.out)).trans B2.out); have M3 := Lib.hid ((hb1.block _ (row_lt B3.out)).trans B3.out); have M4 := Lib.hid ((hb1.block _ (row_lt B4.out)).trans B4.out); have hz1 := hb1.size; clear hb1 c0 c1 d1; obtain ⟨c0, c1⟩ := geCells M0.out)
    | (refine ⟨trivial, ?_⟩; gi_at_call 88; refine (back_in Fence.wide _ trivial rfl _ _ _ _).mono ?_; rintro e w2 ⟨rfl, rfl⟩))
  have HN := Lib.hid (heap_alloc_new w1 (.cells #[.slice A a.e.length vc] 26))
  have hbn := box_below w1 (.cells #[.slice A a.e.length vc] 26)
  have N1 := Lib.hid ((hbn.block _ (row_lt M1.out)).trans M1.out)
  have N2 := Lib.hid ((hbn.block _ (row_lt M2.out)).trans M2.out)
  have N3 := Lib.hid ((hbn.block _ (row_lt M3.out)).trans M3.out)
  have N4 := Lib.hid ((hbn.block _ (row_lt M4.out)).trans M4.out)
  have HBW := Lib.hid (HB1.out.trans (hbn.mono HB1.out.size))
  have hbs := row_lt HN.out
  clear hbn hz1 c0 c1
  generalize w1.alloc (.cells #[.slice A a.e.length vc] 26) = ww at *
  generalize w1.heap.size = Bs at *
  have HSZ := Lib.hid (show w.heap.size + 4 < ww.heap.size from row_lt N4.out)
  have HDW := Lib.hid (Row.below HD.out HBW.out)
  have HCB := Lib.hid (show ww.cell? ⟨Bs, 0, none⟩ = some (.slice A a.e.length vc) by rw [cell_of_row _ _ _ _ _ _ HN.out]; rfl)
  have HST := Lib.hid (back_stops Fence.wide 3 trivial rfl (by omega) Bs vc A a.e hlen ww HDW.out hbs HCB.out)
  clear B0 B1 B2 B3 B4 B5 HX M0 M1 M2 M3 M4 HD
  refine wpIn_rangeFunc_ownH (F := Fence.wide) (n := 4) rfl (by omega) (gf := 122) (lb := #[.pointer (some ⟨Bs, 0, none⟩)]) rfl trivial (enters_of Tryz.func122 (by kernel_rfl) rfl)
    HST.out belowK_t (belowK_b (Nat.le_refl _)) (Below.refl _ _) (fun _ => rfl)
    (fun pre W => (∀ j ∈ pre, psP a.e p t j) ∧ Below ww.heap.size ww W)
    (fun c pre W => (c = .ret ∧ LkX a.e p t w.heap.size pre W) ∧ Below w.heap.size w W)
    (OwnFrom.and (ownFrom_pure _ _) (ownFrom_below (Nat.le_refl _) (Nat.le_refl _)))
    (fun c => OwnFrom.and (Own.from (fun s X Y row hs hg hr => by obtain ⟨hc, ini, last, o, e1, e2, e3, e4, e5, e6, e7⟩ := hs; exact ⟨hc, ini, last, o, e1, e2, e3, e4, e5, cell_kept e6 hg hr, cell_kept e7 hg hr⟩) _) (ownFrom_below (Nat.le_refl _) (by have := HSZ.out; omega)))
    ⟨by simp, Below.refl _ _⟩
    (fun x a' W => ∃ Bx, ww.heap.size ≤ Bx ∧ W.heap[Bx]? = some (.cells (acc (ag a.e x)) 76 (0, 0)) ∧ a' = { tmps := #[.agg (ge a ⟨A, vc⟩), .int .i64 p, .int .i64 t, .pointer (some ⟨w.heap.size, 0, none⟩), .pointer (some ⟨w.heap.size + 1, 0, none⟩), .pointer (some ⟨w.heap.size + 1 + 1, 0, none⟩), .pointer (some ⟨w.heap.size + 1 + 1 + 1, 0, none⟩), .pointer (some ⟨w.heap.size + 1 + 1 + 1 + 1, 0, none⟩), .int .i64 (x : Int), .pointer (some ⟨Bx, 0, none⟩), .agg #[.int .i64 a.n, .slice A a.e.length vc], .int .i64 p, .bool true, .bool false, .pointer (some ⟨w.heap.size, 1, none⟩), .slice A a.e.length vc, .func (.func 122) #[] #[.pointer (some ⟨Bs, 0, none⟩)], .int .i64 (x : Int), .agg (acc (ag a.e x)), undef, undef, undef, undef, undef, undef, undef, undef, undef, undef, undef, undef, undef, undef, undef, undef, undef, undef, undef, undef, undef, undef, undef], defers := [] })
    ?hAx ?assign ?body ?done ?stop
  case hAx =>
    intro x a' s X Y row hs hg hr
    obtain ⟨Bx, h1, h2, h3⟩ := hs
    refine ⟨Bx, h1, (hg.block Bx (row_lt h2) (fun e => ?_)).trans h2, h3⟩
    obtain ⟨-, o, ho, hc⟩ := hr Bx e.symm
    rw [h2] at ho
    cases ho
    cases hc
  case assign =>
    rintro l pre x W K ⟨hi1, hi2⟩ hK
    have HK := Lib.hid (fun a' W' h1 h2 h3 h4 => hK a' W' h1 h2 ⟨hi1, h3⟩ h4)
    have HX := Lib.hid (heap_alloc_new W (.cells (acc (ag a.e x)) 76))
    have HB := Lib.hid (box_below W (.cells (acc (ag a.e x)) 76))
    have HI2 := Lib.hid hi2
    clear hK hi1 hi2
    unfold acc at HX HB ⊢
    gi_wp2
    exact HK.out _ _ ((KeepsOthers.alloc _ _).from _) (HB.out.mono HI2.out.size) (HI2.out.trans (HB.out.mono HI2.out.size)) ⟨W.heap.size, HI2.out.size, HX.out, rfl⟩
  case body =>
    rintro l pre x a' W hl ⟨r, hr⟩ ⟨hi1, hi2⟩ ⟨Bx, hBx, hbx, rfl⟩ hlt
    have XB := Lib.hid hbx
    have HI1 := Lib.hid hi1
    have HI2 := Lib.hid hi2
    obtain ⟨n0, n1, n2, n3, n4, n5, n6⟩ := accCells hbx
    have Q1 := Lib.hid ((hi2.block _ (row_lt N1.out)).trans N1.out)
    have Q2 := Lib.hid ((hi2.block _ (row_lt N2.out)).trans N2.out)
    have Q3 := Lib.hid ((hi2.block _ (row_lt N3.out)).trans N3.out)
    have Q4 := Lib.hid ((hi2.block _ (row_lt N4.out)).trans N4.out)
    have p1 : W.cell? ⟨w.heap.size + 1, 0, none⟩ = some (.int .i64 p) := by rw [cell_of_row _ _ _ _ _ _ Q1.out]; rfl
    have p2 : W.cell? ⟨w.heap.size + 1 + 1, 0, none⟩ = some (.int .i64 t) := by rw [cell_of_row _ _ _ _ _ _ Q2.out]; rfl
    have p3 : W.cell? ⟨w.heap.size + 1 + 1 + 1, 0, none⟩ = some (.int .i64 0) := by rw [cell_of_row _ _ _ _ _ _ Q3.out]; rfl
    have p4 : W.cell? ⟨w.heap.size + 1 + 1 + 1 + 1, 0, none⟩ = some (.bool false) := by rw [cell_of_row _ _ _ _ _ _ Q4.out]; rfl
    have q3 : W.frozen? ⟨w.heap.size + 1 + 1 + 1, 0, none⟩ = false := frozen_of_row _ _ _ _ _ Q3.out
    have q4 : W.frozen? ⟨w.heap.size + 1 + 1 + 1 + 1, 0, none⟩ = false := frozen_of_row _ _ _ _ _ Q4.out
    have HP := Lib.hid (show psP a.e p t x ↔ (t < (ag a.e x).t ∨ (ag a.e x).p ≠ p ∨ ((ag a.e x).k ≠ 4 ∧ ¬ ((ag a.e x).k = 3 ∧ t < (ag a.e x).u))) from Iff.rfl)
    have HIX := Lib.hid (show psP a.e p t x → ∀ j ∈ pre ++ [x], psP a.e p t j from fun hp j hj => (List.mem_append.1 hj).elim (HI1.out j) (fun e => by rw [List.mem_singleton] at e; rw [e]; exact hp))
    have HBB := Lib.hid (HBW.out.trans (hi2.mono HBW.out.size))
    have G1 := Lib.hid (show KeepsFrom ww.heap.size W ((W.setCell ⟨w.heap.size + 1 + 1 + 1, 0, none⟩ (.int .i64 0)).setCell ⟨w.heap.size + 1 + 1 + 1 + 1, 0, none⟩ (.bool false)) from ((KeepsOthers.setCell _ _ _).trans (KeepsOthers.setCell _ _ _)).from _)
    have G2 := Lib.hid (show KeepsFrom ww.heap.size W ((W.setCell ⟨w.heap.size + 1 + 1 + 1, 0, none⟩ (.int .i64 (x : Int))).setCell ⟨w.heap.size + 1 + 1 + 1 + 1, 0, none⟩ (.bool true)) from ((KeepsOthers.setCell _ _ _).trans (KeepsOthers.setCell _ _ _)).from _)
    have hst : ∀ u1 u2, ((W.setCell ⟨w.heap.size + 1 + 1 + 1, 0, none⟩ u1).setCell ⟨w.heap.size + 1 + 1 + 1 + 1, 0, none⟩ u2).cell? ⟨w.heap.size + 1 + 1 + 1, 0, none⟩ = some u1 ∧ ((W.setCell ⟨w.heap.size + 1 + 1 + 1, 0, none⟩ u1).setCell ⟨w.heap.size + 1 + 1 + 1 + 1, 0, none⟩ u2).cell? ⟨w.heap.size + 1 + 1 + 1 + 1, 0, none⟩ = some u2 ∧ Below w.heap.size w ((W.setCell ⟨w.heap.size + 1 + 1 + 1, 0, none⟩ u1).setCell ⟨w.heap.size + 1 + 1 + 1 + 1, 0, none⟩ u2) := fun u1 u2 =>
      ⟨set_far (World.cell?_setCell_same' _ _ _ (by rw [p3]; rfl)) (by omega), World.cell?_setCell_same' _ _ _ (by rw [set_far p4 (by omega)]; rfl), (HBB.out.setCell (p := ⟨w.heap.size + 1 + 1 + 1, 0, none⟩) (by simp; omega) _).setCell (p := ⟨w.heap.size + 1 + 1 + 1 + 1, 0, none⟩) (by simp; omega) _⟩
    have HST2 := Lib.hid hst
    clear hst hi1 hi2 hbx hr
    generalize hy : ag a.e x = y at *
    obtain ⟨xt, xk, xp, xr, xu, xc, xf⟩ := y
    have HY := Lib.hid hy
    clear hy
    simp only at n0 n1 n2 n3 n4 n5 n6
    have hp := HP.out
    simp only at hp
    have HP := Lib.hid hp
    clear hp
    unfold acc
    by_cases t1 : t < xt
    · have d1 : decide (t < xt) = true := decide_eq_true t1
      have HR := Lib.hid (HIX.out (HP.out.2 (.inl t1)))
      clear t1
      gi_wp2
      exact ⟨KeepsFrom.refl _ _, Below.refl _ _, HR.out, HI2.out⟩
    have d1 : decide (t < xt) = false := decide_eq_false t1
    by_cases t2 : xp = p
    · have d2 : (xp != p) = false := by rw [t2]; simp
      by_cases t3 : xk = 4
      · have HR := Lib.hid (⟨t1, t2, t3⟩ : ¬ t < xt ∧ xp = p ∧ xk = 4)
        subst t3
        clear t1 t2
        gi_wp2
        exact ⟨G1.out, ⟨rfl, pre, x, none, rfl, HI1.out, by rw [HY.out]; exact Int.not_lt.2 HR.out.1, by rw [HY.out]; exact HR.out.2.1, .inl ⟨by rw [HY.out], rfl⟩, (HST2.out _ _).1, (HST2.out _ _).2.1⟩, (HST2.out _ _).2.2⟩
      have d3 : (xk == 4) = false := beq_eq_false_iff_ne.2 t3
      by_cases t4 : xk = 3
      · by_cases t5 : t < xu
        · have d5 : decide (t < xu) = true := decide_eq_true t5
          have HR := Lib.hid (⟨t1, t2, t4, t5⟩ : ¬ t < xt ∧ xp = p ∧ xk = 3 ∧ t < xu)
          subst t4
          clear t1 t2 t3 t5 d3
          gi_wp2
          exact ⟨G2.out, ⟨rfl, pre, x, some x, rfl, HI1.out, by rw [HY.out]; exact Int.not_lt.2 HR.out.1, by rw [HY.out]; exact HR.out.2.1, .inr ⟨by rw [HY.out], by rw [HY.out]; exact HR.out.2.2.2, rfl⟩, (HST2.out _ _).1, (HST2.out _ _).2.1⟩, (HST2.out _ _).2.2⟩
        · have d5 : decide (t < xu) = false := decide_eq_false t5
          have HR := Lib.hid (HIX.out (HP.out.2 (.inr (.inr ⟨t3, fun h => t5 h.2⟩))))
          subst t4
          clear t1 t2 t3 t5 d3
          gi_wp2
          exact ⟨KeepsFrom.refl _ _, Below.refl _ _, HR.out, HI2.out⟩
      · have d4 : (xk == 3) = false := beq_eq_false_iff_ne.2 t4
        have HR := Lib.hid (HIX.out (HP.out.2 (.inr (.inr ⟨t3, fun h => t4 h.1⟩))))
        clear t1 t2 t3 t4
        gi_wp2
        exact ⟨KeepsFrom.refl _ _, Below.refl _ _, HR.out, HI2.out⟩
    · have d2 : (xp != p) = true := by rw [bne, beq_eq_false_iff_ne.2 t2]; rfl
      have HR := Lib.hid (HIX.out (HP.out.2 (.inr (.inl t2))))
      clear t1 t2
      gi_wp2
      exact ⟨KeepsFrom.refl _ _, Below.refl _ _, HR.out, HI2.out⟩
  case done =>
    rintro D ys W hD rfl ⟨hp, hB⟩ hK
    have HV := Lib.hid (lk_all (l := a.e) (p := p) (t := t) (fun j hj => by
      have := hp (a.e.length - 1 - (a.e.length - 1 - j)) (mem_dn (by omega))
      rwa [show a.e.length - 1 - (a.e.length - 1 - j) = j by omega] at this))
    have Q3 := Lib.hid ((hB.block _ (row_lt N3.out)).trans N3.out)
    have Q4 := Lib.hid ((hB.block _ (row_lt N4.out)).trans N4.out)
    have p3 : W.cell? ⟨w.heap.size + 1 + 1 + 1, 0, none⟩ = some (.int .i64 0) := by rw [cell_of_row _ _ _ _ _ _ Q3.out]; rfl
    have p4 : W.cell? ⟨w.heap.size + 1 + 1 + 1 + 1, 0, none⟩ = some (.bool false) := by rw [cell_of_row _ _ _ _ _ _ Q4.out]; rfl
    have q3 : W.frozen? ⟨w.heap.size + 1 + 1 + 1, 0, none⟩ = false := frozen_of_row _ _ _ _ _ Q3.out
    have q4 : W.frozen? ⟨w.heap.size + 1 + 1 + 1 + 1, 0, none⟩ = false := frozen_of_row _ _ _ _ _ Q4.out
    have HBB := Lib.hid (HBW.out.trans (hB.mono HBW.out.size))
    have HKK := Lib.hid (((KeepsOthers.setCell W ⟨w.heap.size + 1 + 1 + 1, 0, none⟩ (.int .i64 0)).trans (KeepsOthers.setCell _ ⟨w.heap.size + 1 + 1 + 1 + 1, 0, none⟩ (.bool false))).same D _ hK rfl)
    have hst : ∀ u1 u2, ((W.setCell ⟨w.heap.size + 1 + 1 + 1, 0, none⟩ u1).setCell ⟨w.heap.size + 1 + 1 + 1 + 1, 0, none⟩ u2).cell? ⟨w.heap.size + 1 + 1 + 1, 0, none⟩ = some u1 ∧ ((W.setCell ⟨w.heap.size + 1 + 1 + 1, 0, none⟩ u1).setCell ⟨w.heap.size + 1 + 1 + 1 + 1, 0, none⟩ u2).cell? ⟨w.heap.size + 1 + 1 + 1 + 1, 0, none⟩ = some u2 ∧ Below w.heap.size w ((W.setCell ⟨w.heap.size + 1 + 1 + 1, 0, none⟩ u1).setCell ⟨w.heap.size + 1 + 1 + 1 + 1, 0, none⟩ u2) := fun u1 u2 =>
      ⟨set_far (World.cell?_setCell_same' _ _ _ (by rw [p3]; rfl)) (by omega), World.cell?_setCell_same' _ _ _ (by rw [set_far p4 (by omega)]; rfl), (HBB.out.setCell (p := ⟨w.heap.size + 1 + 1 + 1, 0, none⟩) (by simp; omega) _).setCell (p := ⟨w.heap.size + 1 + 1 + 1 + 1, 0, none⟩) (by simp; omega) _⟩
    have HST2 := Lib.hid (hst (.int .i64 0) (.bool false))
    have HDD := Lib.hid hD
    clear hst hp hB hK hD
    gi_wp2
    refine ⟨by simp, .inl ⟨_, _, rfl, run_takeDeferred HKK.out, ?_⟩⟩
    have hc5 := cell_kept HST2.out.1 (grownBy_putObj' _ D (.deferred none)) (fun r e => by cases e; exact ⟨_, HKK.out, rfl⟩)
    have hc6 := cell_kept HST2.out.2.1 (grownBy_putObj' _ D (.deferred none)) (fun r e => by cases e; exact ⟨_, HKK.out, rfl⟩)
    refine ⟨.tuple #[.int .i64 0, .bool false], ?_, by rw [HV.out]; rfl, HST2.out.2.2.trans (belowK_b (w := ww) (by have := HSZ.out; omega) _ D _ _ HDD.out HKK.out rfl rfl)⟩
    simp [results, Tryz.f46, go_sem, hc5, hc6]
  case stop =>
    rintro D c pre W hD ⟨k, hk, rfl⟩ ⟨⟨rfl, ini, last, o, e1, e2, e3, e4, e5, hc3, hc4⟩, hB⟩ hK
    have HV : lkA a.e p t = o := by
      obtain ⟨k', rfl⟩ : ∃ k', k = k' + 1 := by
        cases k with
        | zero => simp [dn] at e1
        | succ k' => exact ⟨k', rfl⟩
      rw [dn_succ] at e1
      obtain ⟨rfl, e6⟩ := List.append_inj' e1 rfl
      have e6 : a.e.length - 1 - k' = last := by simpa using e6
      have hps : ∀ j, last < j → j < a.e.length → psP a.e p t j := fun j h1 h2 => by
        have := e2 (a.e.length - 1 - (a.e.length - 1 - j)) (mem_dn (by omega))
        rwa [show a.e.length - 1 - (a.e.length - 1 - j) = j by omega] at this
      rcases e5 with ⟨h4, rfl⟩ | ⟨h3, hu, rfl⟩
      · exact lk_hit4 (k := last) (by omega) hps e3 e4 h4
      · exact lk_hit3 (k := last) (by omega) hps e3 e4 h3 hu
    have HV := Lib.hid HV
    have HKK := Lib.hid hK
    have HBB := Lib.hid hB
    have HC3 := Lib.hid hc3
    have HC4 := Lib.hid hc4
    have HDD := Lib.hid hD
    clear e1 e2 e3 e4 e5 hc3 hc4 hB hK hD
    gi_wp2
    refine ⟨by simp, .inl ⟨_, _, rfl, run_takeDeferred HKK.out, ?_⟩⟩
    have hc5 := cell_kept HC3.out (grownBy_putObj' _ D (.deferred none)) (fun r e => by cases e; exact ⟨_, HKK.out, rfl⟩)
    have hc6 := cell_kept HC4.out (grownBy_putObj' _ D (.deferred none)) (fun r e => by cases e; exact ⟨_, HKK.out, rfl⟩)
    refine ⟨.tuple #[.int .i64 (on o), .bool o.isSome], ?_, by first | rfl | rw [HV.out], HBB.out.trans (belowK_b (w := ww) (by have := HSZ.out; omega) _ D _ _ HDD.out HKK.out rfl rfl)⟩
    simp [results, Tryz.f46, go_sem, hc5, hc6]
theorem linked_yes (a : Es) (v : Ve) (p t : Int) (w : World) (h : EL w 0 a v) (he : exP a p) :
    Calls Tryz.prog 46 #[.agg (ge a v), .int .i64 p, .int .i64 t] w fun e w' => e = .returned (.tuple #[.int .i64 (on (lkA a.e p t)), .bool (lkA a.e p t).isSome]) ∧ Below w.heap.size w w' := callsIn_wide.1 (linked_in a v p t w h he)

set_option maxRecDepth 100000 in
set_option maxHeartbeats 4000000 in
theorem linkedno_in (a : Es) (v : Ve) (p t : Int) (w : World) (h : EL w 0 a v) (he : ¬ exP a p) :
    CallsIn Fence.wide 4 Tryz.prog 46 #[.agg (ge a v), .int .i64 p, .int .i64 t] w fun e w' => e = .returned (.tuple #[.int .i64 0, .bool false]) ∧ Below w.heap.size w w' := by
  obtain ⟨A, vc⟩ := v
  have HX := Lib.hid (fun w' (hb : Below w.heap.size w w') => ex_no a ⟨A, vc⟩ p w' (Row.below h hb) he)
  have HF := Lib.hid (show (#[.int .i64 a.n, .slice A a.e.length vc] : Array Value) = ge a ⟨A, vc⟩ from rfl)
  obtain ⟨b0, b1, b2, b3, b4, b5, b6⟩ := boxes5 w (.cells (ge a ⟨A, vc⟩) 28) (.cells #[.int .i64 p] 3) (.cells #[.int .i64 t] 3) (.cells #[.int .i64 0] 3) (.cells #[.bool false] 4)
  have B3 := Lib.hid b3
  have B4 := Lib.hid b4
  have B5 := Lib.hid b5
  obtain ⟨c0, c1⟩ := geCells b0
  have d1 := cell_of_row _ _ 0 _ _ _ b1
  clear b0 b1 b2 b3 b4 b5 b6 h he
  refine callsIn_of_wp_marks Tryz.func46 rfl trivial ?_ rfl
  simp only [Tryz.ntmps46, List.size_toArray, List.length_cons, List.length_nil, Nat.reduceAdd, Nat.reduceSub, Array.replicate_succ, Array.replicate_zero, List.push_toArray, List.append_toArray, List.nil_append, List.cons_append]
  gi_wp2_with (refine ⟨trivial, ?_⟩; gi_at_call 87; rw [HF.out]; refine (callsIn_wide.2 (HX.out _ B5.out)).mono ?_; rintro e w1 ⟨rfl, hb1⟩; have HB1 := Lib.hid (B5.out.trans (hb1.mono B5.out.size)); have M3 := Lib.hid ((hb1.block _ (row_lt B3.out)).trans B3.out); have M4 := Lib.hid ((hb1.block _ (row_lt B4.out)).trans B4.out); clear hb1 c0 c1 d1; have p3 : w1.cell? ⟨w.heap.size + 1 + 1 + 1, 0, none⟩ = some (.int .i64 0) := (by rw [cell_of_row _ _ _ _ _ _ M3.out]; rfl); have p4 : w1.cell? ⟨w.heap.size + 1 + 1 + 1 + 1, 0, none⟩ = some (.bool false) := (by rw [cell_of_row _ _ _ _ _ _ M4.out]; rfl); have q3 : w1.frozen? ⟨w.heap.size + 1 + 1 + 1, 0, none⟩ = false := frozen_of_row _ _ _ _ _ M3.out; have q4 : w1.frozen? ⟨w.heap.size + 1 + 1 + 1 + 1, 0, none⟩ = false := frozen_of_row _ _ _ _ _ M4.out)
  have hc3 : ((w1.setCell ⟨w.heap.size + 1 + 1 + 1, 0, none⟩ (.int .i64 0)).setCell ⟨w.heap.size + 1 + 1 + 1 + 1, 0, none⟩ (.bool false)).cell? ⟨w.heap.size + 1 + 1 + 1, 0, none⟩ = some (.int .i64 0) := set_far (World.cell?_setCell_same' _ _ _ (by rw [p3]; rfl)) (by omega)
  have hc4 : ((w1.setCell ⟨w.heap.size + 1 + 1 + 1, 0, none⟩ (.int .i64 0)).setCell ⟨w.heap.size + 1 + 1 + 1 + 1, 0, none⟩ (.bool false)).cell? ⟨w.heap.size + 1 + 1 + 1 + 1, 0, none⟩ = some (.bool false) := World.cell?_setCell_same' _ _ _ (by rw [set_far p4 (by omega)]; rfl)
  refine ⟨.tuple #[.int .i64 0, .bool false], ?_, rfl, (HB1.out.setCell (p := ⟨w.heap.size + 1 + 1 + 1, 0, none⟩) (by simp; omega) _).setCell (p := ⟨w.heap.size + 1 + 1 + 1 + 1, 0, none⟩) (by simp; omega) _⟩
  simp [results, Tryz.f46, go_sem, hc3, hc4]
theorem linked_no (a : Es) (v : Ve) (p t : Int) (w : World) (h : EL w 0 a v) (he : ¬ exP a p) :
    Calls Tryz.prog 46 #[.agg (ge a v), .int .i64 p, .int .i64 t] w fun e w' => e = .returned (.tuple #[.int .i64 0, .bool false]) ∧ Below w.heap.size w w' := callsIn_wide.1 (linkedno_in a v p t w h he)

end Go.Proofs.YtgknfkmojhganaaGreat.Di
