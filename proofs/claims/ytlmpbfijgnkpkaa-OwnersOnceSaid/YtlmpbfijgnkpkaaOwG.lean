import Derived.Test.YtlmpbfijgnkpkaaOwF
import Derived.Deep.RegionLaw
import Derived.StillTailTactics
import Derived.Deep.CutBlock
namespace Go.Proofs.Ytlmpbfijgnkpkaa.Di
open Go.RowKit
open Go.Proofs.Ytlmpbfijgnkpkaa.Tp
set_option linter.unusedVariables false

/-- Stewards that the maker gives. -/
structure MkS (n : Nat) (l : List Sw) : Prop where
  ok : SOk n l
  m9 : l.length ≤ 9
  t : ∀ j, j < l.length → (sg l j).t ≤ 1000
def StPost (T n : Nat) (w : World) (e : Ending) (w' : World) : Prop := ∃ (l : List Sw) (A : Option Addr) (cc : Nat), e = .returned (.slice A l.length cc) ∧ MkS n l ∧ w'.ownsRow w.heap.size 35 3 (.slice A l.length cc) l.length (sv l) ∧ w.grownBy w' (some T) ∧ TapeOk w' T
theorem asc_mono {l : List Nat} {m : Nat} (h : Asc l m) : ∀ d i, i + d < l.length → l.getD i 0 ≤ l.getD (i + d) 0
  | 0, i, _ => Nat.le_refl _
  | d + 1, i, hd => Nat.le_trans (asc_mono h d i (by omega)) (h.up (i + d) (by omega))

theorem own_not {w : World} {B e s n g : Nat} {v : Value} {xs : List Value} {cs : Array Value} {t : TypeId} {fr : Nat × Nat} (h : w.ownsRow B e s v n xs) (hg : w.heap[g]? = some (.cells cs t fr)) (hne : t ≠ e) : v.ownBlock ≠ some g := by
  intro he
  rcases h.2 with ⟨rfl, _⟩ | ⟨k, cap, cur, rfl, _, hh, _⟩
  · cases he
  · cases he
    rw [hh] at hg
    injection hg with q
    injection q with _ q2
    exact hne q2.symm
theorem xc3 {W : World} {g : Nat} {p q r : Value} {t : TypeId} (h : W.heap[g]? = some (.cells #[p, q, r] t (0, 0))) : (W.cell? ⟨g, 0, none⟩ = some p ∧ W.cell? ⟨g, 1, none⟩ = some q ∧ W.cell? ⟨g, 2, none⟩ = some r) ∧ W.frozen? ⟨g, 0, none⟩ = false ∧ W.frozen? ⟨g, 1, none⟩ = false ∧ W.frozen? ⟨g, 2, none⟩ = false := by
  refine ⟨⟨?_, ?_, ?_⟩, frozen_of_row _ _ _ _ _ h, frozen_of_row _ _ _ _ _ h, frozen_of_row _ _ _ _ _ h⟩ <;> rw [cell_of_row _ _ _ _ _ _ h] <;> rfl
theorem set3row {W : World} {g : Nat} {p q r : Value} {t : TypeId} {old : Array Value} (h : W.heap[g]? = some (.cells old t (0, 0))) (h2 : old.size = 3) :
    ((W.setCell ⟨g, 0, none⟩ p).setCell ⟨g, 1, none⟩ q).setCell ⟨g, 2, none⟩ r = W.setRow g #[p, q, r] := by
  have h0 := setRow_heap W g old (old.setIfInBounds 0 p) t (0, 0) h
  have h1 := setRow_heap W g old ((old.setIfInBounds 0 p).setIfInBounds 1 q) t (0, 0) h
  rw [setCell_eq_setRow W g 0 old t (0, 0) p h, setCell_eq_setRow _ g 1 _ t (0, 0) q h0, setRow_setRow, setCell_eq_setRow _ g 2 _ t (0, 0) r h1, setRow_setRow]
  congr 1
  obtain ⟨l⟩ := old
  match l, h2 with
  | [a, b, c], _ => rfl

theorem st_more {n m j tm s : Nat} {r : Int} {l : List Sw} {cl : List Nat} (hok : SOk n l) (hlj : l.length ≤ j) (hjm : j < m) (hm : m ≤ 10) (has : Asc cl 1000) (hcl : cl.length = m) (htm : cl.getD j 0 = tm)
    (hE : ∀ i, i < l.length → (sg l i).t ≤ 1000 ∧ ∀ j', j ≤ j' → j' < m → (sg l i).t ≤ cl.getD j' 0) (hs : s < n) (hr : -1 ≤ r ∧ r < n) (hne : ¬ (s : Int) = r) :
    SOk n (l ++ [⟨tm, s, r⟩]) ∧ ∀ i, i < (l ++ [(⟨tm, s, r⟩ : Sw)]).length → (sg (l ++ [⟨tm, s, r⟩]) i).t ≤ 1000 ∧ ∀ j', j + 1 ≤ j' → j' < m → (sg (l ++ [⟨tm, s, r⟩]) i).t ≤ cl.getD j' 0 := by
  have htm3 : tm ≤ 1000 := by rw [← htm]; exact has.le j (by omega)
  refine ⟨hok.add (by omega) (by show tm ≤ _; omega) hs (by show r = -1 ∨ (0 ≤ r ∧ r < n ∧ r ≠ s); omega) (fun i hi => ?_), fun i hi => ?_⟩
  · show _ ≤ tm
    rw [← htm]
    exact (hE i hi).2 j (Nat.le_refl _) hjm
  · simp at hi
    by_cases e : i = l.length
    · rw [e, sg_end]
      refine ⟨htm3, fun j' h1 h2 => ?_⟩
      obtain ⟨dd, rfl⟩ : ∃ dd, j' = j + dd := ⟨j' - j, by omega⟩
      show tm ≤ _
      rw [← htm]; exact asc_mono has dd j (by omega)
    · rw [sg_left (by omega)]
      exact ⟨(hE i (by omega)).1, fun j' h1 h2 => (hE i (by omega)).2 j' (by omega) h2⟩

set_option maxRecDepth 100000 in
set_option maxHeartbeats 8000000 in
theorem stewards_any (T B : Nat) (d : Dy) (v : Vd) (w : World) (h : TapeOk w T) (hT : T < w.heap.size) (h1 : 1 ≤ d.k.length) (h2 : d.k.length ≤ 24) :
    Calls Try.prog 10 #[.pointer (some ⟨T, 0, none⟩), .agg (gd d v)] w (StPost T d.k.length w) := by
  have HT := Lib.hid (tape_below h (box_below w (.cells (gd d v) 25)))
  have HG := Lib.hid (gb_row (gb_of_below (box_below w (.cells (gd d v) 25))) : w.grownBy _ (some T))
  have R0 := Lib.hid (heap_alloc_new w (.cells (gd d v) 25))
  clear h
  obtain ⟨j0, hj1, hy0, hy1, hy2⟩ := info_parts zinfo35
  have HJ := Lib.hid hj1
  have HJ0 := Lib.hid hy0
  have HJ1 := Lib.hid hy1
  have HJ2 := Lib.hid hy2
  clear hj1 hy0 hy1 hy2
  go_enter Try.func10, Try.ntmps10
  go_wp2_with fail
  refine (next_any T 10 _ HT.out (by omega) (by omega)).mono ?_
  rintro e w1 ⟨zm, zm0, zm1, rfl, hg1, ht1⟩
  obtain ⟨m, rfl⟩ : ∃ k : Nat, zm = k := ⟨zm.toNat, by omega⟩
  have hT1 : T < w1.heap.size := by have := (gb_trans HG.out hg1).size; omega
  have HCK := Lib.hid (clock_any T m w1 ht1 hT1 (by omega))
  have HG1 := Lib.hid hg1
  clear hg1 ht1
  go_wp2_with fail
  refine HCK.out.mono ?_
  rintro e w2 ⟨cl, Ac, cc, rfl, hcll, hasc, hcown, hg2, ht2⟩
  have hg12 := gb_trans HG1.out hg2
  have R2 := Lib.hid ((hg12.block _ (row_lt R0.out) (fun e => by injection e; omega)).trans R0.out)
  have HG2 := Lib.hid (gb_trans HG.out hg12)
  have HOC := Lib.hid (own_base hcown (show w.heap.size ≤ w1.heap.size by have := (gb_trans HG.out HG1.out).size; omega))
  have HT2 := Lib.hid ht2
  have HCL := Lib.hid hcll
  have HAS := Lib.hid hasc
  clear hg12 hg2 ht2 hcll hasc hcown HCK HG1 R0 HT HG
  go_wp2_with fail
  go_loopw [5, 14] (fun ov jj wr => ∃ (j : Nat) (l : List Sw), j ≤ m ∧ jj = .int .i64 (j : Int) ∧ l.length ≤ j ∧ SOk d.k.length l ∧ (∀ i, i < l.length → (sg l i).t ≤ 1000 ∧ ∀ j', j ≤ j' → j' < m → (sg l i).t ≤ cl.getD j' 0) ∧ wr.ownsRow w.heap.size 35 3 ov l.length (sv l) ∧ wr.ownsRow w.heap.size 3 1 (.slice Ac m cc) m (iv cl) ∧ wr.heap[w.heap.size]? = some (.cells (gd d v) 25 (0, 0)) ∧ w.grownBy wr (some T) ∧ TapeOk wr T) (fun _ jj _ => m - (intOf jj).toNat)
  case atStart => exact ⟨0, [], by omega, rfl, by simp, SOk.nil _, fun i hi => absurd hi (by simp), own_nil _ _ _ _, HOC.out, R2.out, HG2.out, HT2.out⟩
  case round =>
    obtain ⟨j, l, hj, rfl, hlj, hok, hlt', hown, hoc, hz, hgb, htp⟩ := hrel
    have HOK := Lib.hid hok
    have HLT := Lib.hid hlt'
    have HO := Lib.hid hown
    have HC := Lib.hid hoc
    have HZ := Lib.hid hz
    have HGB := Lib.hid hgb
    have HTP := Lib.hid htp
    have lr := row_lt hz
    obtain ⟨g0, g1⟩ := gdCells hz
    clear HOC R2 HG2 HT2 hok hlt'
    by_cases hlt : j < m
    · obtain ⟨b, off, e6, -, -, y0⟩ := (row_of_own hoc).int hlt
      have hAc : Ac = some ⟨b, off, none⟩ := e6
      subst hAc
      obtain ⟨tm, htm⟩ : ∃ t, cl.getD j 0 = t := ⟨_, rfl⟩
      rw [htm] at y0
      have HTM := Lib.hid htm
      have i0' : (0 : Int) ≤ (j : Int) := by omega
      have i1' : (j : Int) < (m : Int) := by omega
      have hTr : T < wr.heap.size := by omega
      have hwr : IntKind.i64.wrap ((d.k.length : Int) - 1) = (d.k.length : Int) - 1 := IntWalk.i64_in _ (by omega)
      have HNX := Lib.hid (fun (w' : World) (h : TapeOk w' T) => next_any T d.k.length w' h (by omega) (by omega))
      have HBT := Lib.hid (fun (w' : World) (h : TapeOk w' T) => between_any T (-1) ((d.k.length : Int) - 1) w' h (by omega) (by omega) (by omega) (by omega))
      clear hown hoc hz hgb htp htm
      go_upto_region 5 with fail
      go_cut [8] from 15 to 40 (fun s8 wx => ∃ (s : Nat) (r : Int) (G : Nat), s8 = .pointer (some ⟨G, 0, none⟩) ∧ s < d.k.length ∧ (-1 ≤ r ∧ r < d.k.length) ∧ wx.heap[G]? = some (.cells #[.int .i64 (tm : Int), .int .i64 (s : Int), .int .i64 r] 35 (0, 0)) ∧ wr.grownBy wx (some T) ∧ TapeOk wx T)
      case first =>
        go_region_law (first
          | (go_simp; go_at_call 11; (with_reducible refine (HNX.out _ ?_).mono ?_); (first | exact HTP.out | exact tape_below HTP.out (Below.refl _ _).drew | exact tape_new2 HTP.out _ | exact tape_new2 (tape_below HTP.out (Below.refl _ _).drew) _); (rintro e w3 ⟨z, z0, z1, rfl, hg3, ht3⟩; have hg3' : wr.grownBy w3 (some T) := (by first | exact ⟨hg3.os, hg3.tape, hg3.output, hg3.size, hg3.block⟩ | exact gb_trans (gb_row (gb_of_below (box_below wr _))) ⟨hg3.os, hg3.tape, hg3.output, hg3.size, hg3.block⟩); obtain ⟨s, rfl⟩ : ∃ s : Nat, z = s := ⟨z.toNat, by omega⟩; have HS := Lib.hid (show s < d.k.length by omega); have hz3 := (hg3'.block _ lr (fun e => by injection e; omega)).trans HZ.out; obtain ⟨u0, u1⟩ := gdCells hz3; have l3 := row_lt hz3; have G3 := Lib.hid hg3'; have T3 := Lib.hid ht3; try (have X3 := Lib.hid ((hg3.block wr.heap.size (by simp) (fun e => by injection e; omega)).trans (heap_alloc_new wr (.cells #[.int .i64 0, .int .i64 0, .int .i64 0] 35)))); (try clear hz3); (try clear hg3'); (try clear hg3); (try clear ht3); (try clear z0 z1)))
          | (go_simp; go_at_call 12; (with_reducible refine (HBT.out _ ?_).mono ?_); (first | exact T3.out | exact tape_below T3.out (Below.refl _ _).drew | exact tape_new2 T3.out _ | exact tape_new2 (tape_below T3.out (Below.refl _ _).drew) _); (rintro e w4 ⟨r, r0, r1, rfl, hg4, ht4⟩; have hg4' : wr.grownBy w4 (some T) := (by first | exact gb_trans G3.out ⟨hg4.os, hg4.tape, hg4.output, hg4.size, hg4.block⟩ | exact gb_trans G3.out (gb_trans (gb_row (gb_of_below (box_below w3 _))) ⟨hg4.os, hg4.tape, hg4.output, hg4.size, hg4.block⟩)); have HR := Lib.hid (show -1 ≤ r ∧ r < d.k.length by omega); have G4 := Lib.hid hg4'; have T4 := Lib.hid ht4; (first | (have X4 := Lib.hid ((hg4.block w3.heap.size (by simp) (fun e => by injection e; have := G3.out.size; omega)).trans (heap_alloc_new w3 (.cells #[.int .i64 0, .int .i64 0, .int .i64 0] 35))); obtain ⟨⟨x0, x1, x2⟩, f0, f1, f2⟩ := xc3 X4.out) | (have X4 := Lib.hid ((hg4.block wr.heap.size (row_lt X3.out) (fun e => by injection e; omega)).trans X3.out); obtain ⟨⟨x0, x1, x2⟩, f0, f1, f2⟩ := xc3 X4.out) | skip); (try clear hg4'); (try clear hg4); (try clear ht4); (try clear r0 r1))))
        all_goals
          go_wp2_with fail
          go_meet
          case rel =>
            first
              | exact ⟨s, r, _, rfl, HS.out, HR.out, heap_alloc_new w4 _, gb_alloc2 G4.out _, tape_new2 T4.out _⟩
              | (rw [set3row X4.out rfl]; exact ⟨s, r, _, rfl, HS.out, HR.out, setRow_heap _ _ _ _ _ _ X4.out, gb_far G4.out (by first | exact Nat.le_refl _ | exact G3.out.size) _, tape_set T4.out (by first | omega | (have := G3.out.size; omega)) _⟩)
      case rest =>
        obtain ⟨s, r, G, rfl, hs, hr, hxb, hgx, htx⟩ := hcut
        rename World => W
        have XB := Lib.hid hxb
        have GB := Lib.hid hgx
        have TB := Lib.hid htx
        have HS := Lib.hid hs
        have HR := Lib.hid hr
        clear hs hr hxb hgx htx
        obtain ⟨⟨k0, k1, k2⟩, -⟩ := xc3 XB.out
        have O5 := Lib.hid (own_keepT HO.out GB.out hT)
        have C5 := Lib.hid (own_keepT HC.out GB.out hT)
        have hz5 := (GB.out.block _ lr (fun e => by injection e; omega)).trans HZ.out
        have Z5 := Lib.hid hz5
        have G5 := Lib.hid (gb_trans HGB.out GB.out)
        clear g0 g1 y0 hz5
        by_cases e : (s : Int) = r
        · have e1 : ((s : Int) != r) = false := by rw [e]; simp
          clear e
          go_wp2_with fail
          exact ⟨⟨j + 1, l, by omega, by go_num, by omega, HOK.out, fun i hi => ⟨(HLT.out i hi).1, fun j' h1 h2 => (HLT.out i hi).2 j' (by omega) h2⟩, O5.out, C5.out, Z5.out, G5.out, TB.out⟩, by simp [intOf]; omega⟩
        · have e1 : ((s : Int) != r) = true := by rw [bne, beq_eq_false_iff_ne.2 e]; rfl
          have HMO := Lib.hid (st_more HOK.out hlj hlt (by omega) HAS.out HCL.out HTM.out HLT.out HS.out HR.out e)
          have HSN := Lib.hid (sv_snoc l ⟨tm, s, r⟩)
          have hsz := G5.out.size
          clear e
          go_wp2_with (at_builtin; refine wpList_append_own _ rfl (.tmp 36) (.tmp 38) 26 rfl w.heap.size 35 j0 (.agg #[.int .i64 0, .int .i64 0, .int .i64 0]) 3 24 Try.underlying26 HJ.out HJ0.out HJ1.out HJ2.out rfl (by decide) _ l.length (sv l) rfl (O5.out.alloc _) ⟨W.heap.size, 0, none⟩ 1 1 [.int .i64 (tm : Int), .int .i64 (s : Int), .int .i64 r] rfl rfl (World.news_of_block (heap_alloc_new W _)) (by simp [Value.oneCell']) (by unfold maxLen; omega) (by omega) (by simp; omega) ?_; intro v' w12 hown hgr _; have GR := Lib.hid (gb_own (gb_trans G5.out (gb_row (gb_of_below (box_below W _)))) hgr (fun g e => (O5.out.lt g e).1)); have TR := Lib.hid (tape_kept (tape_new2 TB.out _) hgr (fun g e => by have := (O5.out.lt g e).1; omega)); have CR := Lib.hid (kept_ne (C5.out.alloc _) hgr (fun g e => own_ne O5.out C5.out (by decide) g e)); have n7 := own_not (O5.out.alloc (.cells #[.int .i64 (tm : Int), .int .i64 (s : Int), .int .i64 r] 35)) ((heap_alloc_old _ _ (row_lt Z5.out)).trans Z5.out) (by decide); have ZR := Lib.hid (((hgr.block w.heap.size (by have := row_lt Z5.out; simp; omega) (fun e => n7 e.symm)).trans (heap_alloc_old _ _ (row_lt Z5.out))).trans Z5.out); have OR := Lib.hid hown; clear hown hgr n7)
          exact ⟨⟨j + 1, l ++ [⟨tm, s, r⟩], by omega, by go_num, by simp; omega, HMO.out.1, HMO.out.2, by rw [HSN.out, List.length_append]; exact OR.out, CR.out, ZR.out, GR.out, TR.out⟩, by simp [intOf]; omega⟩
    · obtain rfl : m = j := by omega
      obtain ⟨A', c', rfl⟩ := own_form hown
      have HMK : MkS d.k.length l := ⟨HOK.out, by omega, fun i hi => (HLT.out i hi).1⟩
      have HMK := Lib.hid HMK
      clear hown hoc hz hgb htp
      go_wp2_with fail
      go_ret
      exact ⟨l, A', c', rfl, HMK.out, HO.out, HGB.out, HTP.out⟩

end Go.Proofs.Ytlmpbfijgnkpkaa.Di
