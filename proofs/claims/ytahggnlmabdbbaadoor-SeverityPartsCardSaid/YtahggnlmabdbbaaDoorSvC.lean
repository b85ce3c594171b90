import Derived.Test.YtahggnlmabdbbaaDoorSvB
import Derived.Test.YtahggnlmabdbbaaDoorMkRi
import Derived.Test.YtahggnlmabdbbaaDoorRows
import Derived.ProofKit
import Derived.OpenShut
import Derived.ShutString
import Derived.ChangeOld
import Derived.LaidMore
import Derived.LaidLaws
import Derived.LaidHandle
import Derived.ChangeSame
import Derived.ChangeVars
import Derived.Stop.Joined
namespace Go.Proofs.YtahggnlmabdbbaaDoor.Di
open Go.RowKit Go.Shelf Go.Maps
open Go.Proofs.YtahggnlmabdbbaaDoor.Tp
open Go.Proofs.YtahggnlmabdbbaaDoor.Sx
set_option linter.unusedVariables false
/-- What the rows list of the package tables. -/
def laidL : List (String × DataW Unit) := [("leakresponse/severity.bounds", Rows.laid_leakresponse_severity_bounds)]
theorem door_met (os : Os) (args : Array Value) : laidMetH Tryd.prog laidL ((World.doorLaid Tryd.prog 400 os).forCall (fun _ _ => 0) ⟨#[], args, []⟩).memory :=
  laidMetH_of_parts3 (fuel := 8) (laidMet_of_run' 8 (by kernel_rfl) (by kernel_rfl)) (by kernel_rfl) (by kernel_rfl)
theorem lit_of {P : Program} {w : World} {e : TypeId} {fuel : Nat} {v : Value} {z : Int} {q : List MemPlace} {sp : Nat → Bool} (he : P.underlying e = some (.int .i64)) (h : DataW.trod (H := Unit) (fun _ => ()) P w 0 sp false fuel e [v] = some (.lit (.int .i64 z), q)) : v = .int .i64 z := by
  cases fuel with
  | zero => simp [DataW.trod] at h
  | succ n =>
    unfold DataW.trod at h
    rw [he] at h
    cases v <;> simp at h
    obtain ⟨⟨rfl, _⟩, rfl, _⟩ := h
    rfl
theorem tbl_of {P : Program} {w : World} {t e : TypeId} {fuel : Nat} {cs : List Value} {a b c d : Int} {q : List MemPlace} {sp : Nat → Bool} (ht : P.underlying t = some (.array 4 e)) (he : P.underlying e = some (.int .i64)) (hc : P.cellsOf e = 1) (hc4 : P.cellsOf t = 4)
    (h : DataW.trod (H := Unit) (fun _ => ()) P w 0 sp false fuel t cs = some (.agg [.lit (.int .i64 a), .lit (.int .i64 b), .lit (.int .i64 c), .lit (.int .i64 d)], q)) : cs = [.int .i64 a, .int .i64 b, .int .i64 c, .int .i64 d] := by
  cases fuel with
  | zero => simp [DataW.trod] at h
  | succ n =>
    have hs : (if cs.length = P.cellsOf t then ((List.range 4).mapM fun i => DataW.trod (H := Unit) (fun _ => ()) P w 0 sp false n e ((cs.drop (i * P.cellsOf e)).take (P.cellsOf e))).map fun xs => (DataW.agg (xs.map (·.1)), xs.flatMap (·.2)) else none) = some (.agg [.lit (.int .i64 a), .lit (.int .i64 b), .lit (.int .i64 c), .lit (.int .i64 d)], q) := by
      rw [← h]
      conv => rhs; unfold DataW.trod
      rw [ht]
    rw [hc, hc4] at hs
    by_cases hl : cs.length = 4
    · rw [if_pos hl] at hs
      match cs, hl with
      | [v0, v1, v2, v3], _ =>
        simp only [show List.range 4 = [0, 1, 2, 3] from rfl, List.mapM_cons, List.mapM_nil] at hs
        simp only [show List.take 1 (List.drop (0 * 1) [v0, v1, v2, v3]) = [v0] from rfl, show List.take 1 (List.drop (1 * 1) [v0, v1, v2, v3]) = [v1] from rfl, show List.take 1 (List.drop (2 * 1) [v0, v1, v2, v3]) = [v2] from rfl, show List.take 1 (List.drop (3 * 1) [v0, v1, v2, v3]) = [v3] from rfl] at hs
        cases h0 : DataW.trod (H := Unit) (fun _ => ()) P w 0 sp false n e [v0] with
        | none => rw [h0] at hs; simp at hs
        | some y0 =>
        cases h1 : DataW.trod (H := Unit) (fun _ => ()) P w 0 sp false n e [v1] with
        | none => rw [h0, h1] at hs; simp at hs
        | some y1 =>
        cases h2 : DataW.trod (H := Unit) (fun _ => ()) P w 0 sp false n e [v2] with
        | none => rw [h0, h1, h2] at hs; simp at hs
        | some y2 =>
        cases h3 : DataW.trod (H := Unit) (fun _ => ()) P w 0 sp false n e [v3] with
        | none => rw [h0, h1, h2, h3] at hs; simp at hs
        | some y3 =>
        rw [h0, h1, h2, h3] at hs
        obtain ⟨d0, q0⟩ := y0
        obtain ⟨d1, q1⟩ := y1
        obtain ⟨d2, q2⟩ := y2
        obtain ⟨d3, q3⟩ := y3
        simp at hs
        obtain ⟨⟨rfl, rfl, rfl, rfl⟩, -⟩ := hs
        rw [lit_of he h0, lit_of he h1, lit_of he h2, lit_of he h3]
    · rw [if_neg hl] at hs; cases hs
theorem tb_of {w : World} (h : laidMetH Tryd.prog laidL w) : Me w 0 0 TB := by
  have h1 : laidMet Tryd.prog laidL w := h
  obtain ⟨ps, ⟨g, t, cs, fuel, p, q, e1, e2, e3, e4, -⟩, -⟩ := h1
  obtain rfl : g = 0 := (Option.some.inj ((show Tryd.prog.globalNamed "leakresponse/severity.bounds" = some 0 by kernel_rfl).symm.trans e1)).symm
  obtain rfl : t = 57 := (Option.some.inj ((show (Tryd.prog.globals[0]?).map (·.type) = some 57 by kernel_rfl).symm.trans e2)).symm
  have hcs := tbl_of Tryd.underlying57 Tryd.underlying3 (by kernel_rfl) (by kernel_rfl) e4
  unfold World.var? at e3
  rw [e1] at e3
  cases hb : w.heap[0]? with
  | none => rw [show (some 0).bind _ = _ from rfl] at e3; simp [hb] at e3
  | some b =>
    cases b with
    | cells cs2 ty fz =>
      have e5 : cs2 = cs := by simpa [hb] using e3
      subst e5
      refine ⟨by obtain ⟨hlt, _⟩ := Array.getElem?_eq_some_iff.1 hb; exact hlt, fun j v hj => ?_⟩
      unfold World.cell?
      rw [hb]
      show cs2[0 + j]? = some v
      rw [Nat.zero_add, ← Array.getElem?_toList, hcs]
      exact hj
    | _ => simp [hb] at e3
theorem own : ownKnob Tryd.prog.godebug = none := by kernel_rfl

theorem laidOut : laidOutB Tryd.prog = true := by kernel_rfl

/-- A slice of integers that came in: nil, or a row of 'cap' cells. -/
def IsRow (k : IntKind) (w : World) (a : Option Addr) (len cap : Nat) (zs : List Int) : Prop :=
  (a = none ∧ len = 0 ∧ cap = 0 ∧ zs = []) ∨
  ∃ x, a = some x ∧ len ≤ cap ∧ cap ≤ maxLen ∧ zs.length = cap ∧ (∀ i, i < zs.length → w.cell? (x.add i) = some (.int k (zs.getD i 0))) ∧ ∀ n ∈ zs, (Lit.int k n).wf = true

theorem IsRow.at_ {k : IntKind} {w : World} {a : Option Addr} {len cap : Nat} {zs : List Int} (h : IsRow k w a len cap zs) :
    len ≤ maxLen ∧ (0 < len → ∃ b off, a = some ⟨b, off, none⟩ ∧ b < w.heap.size ∧ ∀ j, j < len → w.cell? ⟨b, off + j, none⟩ = some (.int k (zs.getD j 0))) := by
  rcases h with ⟨rfl, rfl, rfl, rfl⟩ | ⟨x, rfl, hl, hm, hz, hc, hw⟩
  · exact ⟨by unfold maxLen; omega, fun h => absurd h (by omega)⟩
  · refine ⟨by omega, fun h0 => ?_⟩
    obtain ⟨b, off, spot⟩ := x
    have hc0 := hc 0 (by omega)
    have hspot : spot = none := by simpa [Addr.add] using World.cell?_spot hc0
    subst hspot
    have hlt : b < w.heap.size := by simpa [Addr.add] using block_lt_of_cell hc0
    refine ⟨b, off, rfl, hlt, fun j hj => ?_⟩
    have hj := hc j (by omega)
    have e : (⟨b, off, none⟩ : Addr).add j = ⟨b, off + j, none⟩ := by unfold Addr.add; split <;> simp_all
    rwa [e] at hj

theorem tape_new {w : World} {a : Option Addr} {len cap : Nat} {zs : List Int} (h : IsRow .i64 w a len cap zs) : TapeOk (w.alloc (.cells #[.slice a len cap, .int .i64 0] 32)) w.heap.size := by
  obtain ⟨hm, hc⟩ := h.at_
  unfold maxLen at hm
  refine ⟨a, len, cap, fun j => zs.getD j 0, 0, heap_alloc_new _ _, hm, by omega, fun h0 => ?_⟩
  obtain ⟨b, off, e, hlt, hcell⟩ := hc h0
  exact ⟨b, off, e, hlt, fun j hj => (World.cell?_alloc_lt w _ _ hlt).trans (hcell j hj)⟩

theorem tape_of {w w1 : World} {a : Option Addr} {len cap b : Nat} {zs : List Int} (h : IsRow .i64 w a len cap zs) (nw : New w w1 b) (x : Bx w1 b [.slice a len cap, .int .i64 0] 32) : TapeOk w1 b := by
  obtain ⟨hm, hc⟩ := h.at_
  unfold maxLen at hm
  refine ⟨a, len, cap, fun j => zs.getD j 0, 0, x, hm, by omega, fun h0 => ?_⟩
  obtain ⟨b2, off, e, hlt, hcell⟩ := hc h0
  exact ⟨b2, off, e, Nat.lt_of_lt_of_le hlt nw.ge, fun j hj => (World.cell?_of_block (w := w) (nw.r.block b2 hlt (fun h => h))).trans (hcell j hj)⟩
theorem MkR.ok {x : Rt} (h : MkR x) : Rok x := by
  have := h.c1; have := h.c6; have := h.k1; have := h.k5; have := h.g7; have := h.s4; have := h.m3
  refine ⟨by omega, by omega, by omega, by omega, by omega, by omega, by omega, fun j hj => ?_, fun j hj => ?_, fun j hj => ?_⟩
  · exact h.g _ (by unfold e3; rw [List.getD_eq_getElem?_getD, List.getElem?_eq_getElem hj]; exact List.getElem_mem hj)
  · exact h.s _ (by unfold e2; rw [List.getD_eq_getElem?_getD, List.getElem?_eq_getElem hj]; exact List.getElem_mem hj)
  · exact h.m _ (by unfold e2; rw [List.getD_eq_getElem?_getD, List.getElem?_eq_getElem hj]; exact List.getElem_mem hj)
theorem asc_of {l : List Int} (h : l.Pairwise (· < ·)) (j : Nat) (hj : j + 1 < l.length) : e0 l j < e0 l (j + 1) := by
  have := List.pairwise_iff_getElem.1 h j (j + 1) (by omega) hj (by omega)
  unfold e0
  rw [List.getD_eq_getElem?_getD, List.getD_eq_getElem?_getD, List.getElem?_eq_getElem (by omega), List.getElem?_eq_getElem hj]
  exact this
/-- More in the set, more of a right. -/
theorem gt_mono {x : Rt} {S S' : Int → Bool} (h : ∀ y, S y = true → S' y = true) (r : Int) : ∀ n, gt x S r n ≤ gt x S' r n
  | 0 => Int.le_refl _
  | n + 1 => by
    have ih := gt_mono (x := x) h r n
    rw [gt, gt]
    by_cases h1 : S (e3 x.g n).a = true ∧ (e3 x.g n).b = r
    · rw [if_pos h1, if_pos ⟨h _ h1.1, h1.2⟩]; omega
    · rw [if_neg h1]
      split
      · omega
      · exact ih
theorem row_bx {w : World} {b n s : Nat} {l : List Value} {t : TypeId} (h : Bx w b l t) (hl : l.length = n * s) : Row w 0 s (some ⟨b, 0, none⟩) n l :=
  ⟨hl, fun _ => ⟨b, 0, rfl, Nat.zero_le _, h.lt, fun j u hj => h.seg j u hj⟩⟩
theorem own_capn {w : World} {B e s n c : Nat} {A : Option Addr} {xs : List Value} (h : w.ownsRow B e s (.slice A n c) n xs) (hn : 0 < n) : n ≤ c := by
  rcases h.2 with ⟨_, h0⟩ | ⟨g, cap, cur, e1, _, _, h2, _⟩
  · omega
  · injection e1 with _ _ e3; omega
/-- The chapter's example. -/
def xS : Rt := ⟨1, 1, [⟨0, 0, 3⟩], [], []⟩
theorem xS_ok : Rok xS := by
  refine ⟨by decide, by decide, by decide, by decide, by decide, by decide, by decide, fun j hj => ?_, fun j hj => absurd hj (by simp [xS]), fun j hj => absurd hj (by simp [xS])⟩
  obtain rfl : j = 0 := by simp [xS] at hj; omega
  simp [okG, xS, e3]
theorem xS_w : smW (pwr xS 0) [50] ([50] : List Int).length = 150 := by
  have h0 : rB xS 0 0 = true := rB_iff.2 (Rch.refl _ _)
  have h1 : gt xS (rB xS 0) 0 1 = 3 := by
    show (if rB xS 0 0 = true ∧ (0 : Int) = 0 then max (0 : Int) 3 else _) = (3 : Int)
    rw [h0]
    decide
  have h2 : pwr xS 0 = [3] := by
    show [gt xS (rB xS 0) 0 1] = _
    rw [h1]
  rw [h2]
  decide
theorem rlS {w : World} {b1 : Nat} (x1 : Bx w b1 [.int .i64 0, .int .i64 0, .int .i64 3] 54) : RL w 0 xS ⟨some ⟨b1, 0, none⟩, 1, none, 0, none, 0⟩ :=
  ⟨row_bx x1 rfl, ⟨rfl, fun h => absurd h (by decide)⟩, ⟨rfl, fun h => absurd h (by decide)⟩⟩
theorem rate_S {w : World} {b1 b3 : Nat} (x1 : Bx w b1 [.int .i64 0, .int .i64 0, .int .i64 3] 54) (x3 : Bx w b3 [.int .i64 50] 3) (hT : Me w 0 0 TB) :
    Calls Tryd.prog 18 #[.agg (gr xS ⟨some ⟨b1, 0, none⟩, 1, none, 0, none, 0⟩), .slice (some ⟨b3, 0, none⟩) 1 1, .int .i64 0, .int .i64 1, .bool false] w fun e w' => e = .returned (.tuple #[.agg (List.toArray [.int .i64 2, .int .i64 150, .int .i64 2, .int .i64 300]), .int .i64 0]) ∧ Below w.heap.size w w' := by
  have hj50 : ∀ {j : Nat}, j < ([50] : List Int).length → 0 ≤ e0 [50] j ∧ e0 [50] j ≤ 100 := fun {j} hj => by
    obtain rfl : j = 0 := by simp at hj; omega
    decide
  have h := rate_yes xS ⟨some ⟨b1, 0, none⟩, 1, none, 0, none, 0⟩ [50] (some ⟨b3, 0, none⟩) 1 0 1 false w (rlS x1) (row_bx x3 rfl) xS_ok (by decide) rfl (fun j hj => hj50 hj) (by decide) hT
  rw [xS_w] at h
  exact h
set_option maxRecDepth 100000 in
set_option maxHeartbeats 4000000 in
theorem awake_any (w : World) (hT : Me w 0 0 TB) : Calls Tryd.prog 8 #[] w fun e w' => e = .returned (.bool true) ∧ Below w.heap.size w w' := by
  have E : Rel (fun x => w.heap.size ≤ x) w w := Rel.refl _ _
  refine Sx.enter Tryd.func8 rfl Tryd.ntmps8 rfl (fun fr => ?_)
  refine Sx.seq ?_
  refine Sx.reg ?_
  refine Sx.sv (r_as rfl) rfl (wnt0 rfl) ?_
  refine wnil ?_
  refine Sx.nT ?_
  refine Sx.seq ?_
  refine Sx.reg ?_
  refine Sx.sv (r_bld rfl (bd54_2 _)) rfl (wnt0 rfl) ?_
  refine Sx.sy (y_bs rfl (bs23_1 _ _ _)) rfl (wnt0 rfl) ?_
  rintro _ w1 ⟨b1, rfl, n1, x1⟩
  have l1_hT : 0 < b1 := Nat.lt_of_lt_of_le hT.lt n1.ge
  have g1 : w.heap.size ≤ b1 := Nat.le_trans E.size n1.ge
  replace hT := hT.nw n1.r
  replace E := E.then n1.r (fun _ _ h => h.elim)
  refine Sx.sv (r_bld rfl (bd27_0_1_2 _ _ _ _ _)) rfl (wnt0 rfl) ?_
  refine Sx.sy (y_all zi27 rfl) rfl (wnt0 rfl) ?_
  rintro _ w2 ⟨b2, rfl, n2, x2⟩
  have l2_hT : 0 < b2 := Nat.lt_of_lt_of_le hT.lt n2.ge
  have l2_x1 : b1 < b2 := Nat.lt_of_lt_of_le x1.lt n2.ge
  have g2 : w.heap.size ≤ b2 := Nat.le_trans E.size n2.ge
  replace hT := hT.nw n2.r
  replace x1 := x1.nw n2.r
  replace E := E.then n2.r (fun _ _ h => h.elim)
  refine Sx.syu (u_stR ty27 rfl rfl rfl x2 rfl rfl) rfl (wnt0 rfl) ?_
  rintro w3 ⟨r3, z3, x3n⟩
  replace hT := hT.ch r3 (by omega)
  replace x1 := x1.ch r3 (by omega)
  replace E := E.then r3 (fun x hx (e : x = b2) => show w.heap.size ≤ x by omega)
  replace x2 := x3n; clear x3n
  refine wnil ?_
  refine Sx.nT ?_
  refine Sx.seq ?_
  refine Sx.reg ?_
  refine Sx.sv (r_ldr ty27 rfl (x2.seg) rfl) rfl (wnt0 rfl) ?_
  refine Sx.sy (y_bs rfl (bs22_1 _)) rfl (wnt0 rfl) ?_
  rintro _ w4 ⟨b4, rfl, n4, x4⟩
  have l4_hT : 0 < b4 := Nat.lt_of_lt_of_le hT.lt n4.ge
  have l4_x1 : b1 < b4 := Nat.lt_of_lt_of_le x1.lt n4.ge
  have l4_x2 : b2 < b4 := Nat.lt_of_lt_of_le x2.lt n4.ge
  have g4 : w.heap.size ≤ b4 := Nat.le_trans E.size n4.ge
  replace hT := hT.nw n4.r
  replace x1 := x1.nw n4.r
  replace x2 := x2.nw n4.r
  replace E := E.then n4.r (fun _ _ h => h.elim)
  refine Sx.sc (r_call en18 rfl) rfl (wnt0 rfl) (rate_S x1 x4 hT) ?_
  rintro e w5 ⟨rfl, hb5⟩
  refine ⟨_, rfl, ?_⟩
  have r5 := Rel.of0 hb5
  replace hT := hT.nw r5
  replace x1 := x1.nw r5
  replace x2 := x2.nw r5
  replace x4 := x4.nw r5
  replace E := E.then r5 (fun _ _ h => h.elim)
  refine Sx.sv (r_mv rfl) rfl (wnt0 rfl) ?_
  refine Sx.sv (r_ex rfl rfl) rfl (wnt0 rfl) ?_
  refine Sx.sv (r_ex rfl rfl) rfl (wnt0 rfl) ?_
  refine Sx.sy (y_all zi47 rfl) rfl (wnt0 rfl) ?_
  rintro _ w6 ⟨b6, rfl, n6, x6⟩
  have l6_hT : 0 < b6 := Nat.lt_of_lt_of_le hT.lt n6.ge
  have l6_x1 : b1 < b6 := Nat.lt_of_lt_of_le x1.lt n6.ge
  have l6_x2 : b2 < b6 := Nat.lt_of_lt_of_le x2.lt n6.ge
  have l6_x4 : b4 < b6 := Nat.lt_of_lt_of_le x4.lt n6.ge
  have g6 : w.heap.size ≤ b6 := Nat.le_trans E.size n6.ge
  replace hT := hT.nw n6.r
  replace x1 := x1.nw n6.r
  replace x2 := x2.nw n6.r
  replace x4 := x4.nw n6.r
  replace E := E.then n6.r (fun _ _ h => h.elim)
  refine Sx.syu (u_stR ty47 rfl rfl rfl x6 rfl rfl) rfl (wnt0 rfl) ?_
  rintro w7 ⟨r7, z7, x7n⟩
  replace hT := hT.ch r7 (by omega)
  replace x1 := x1.ch r7 (by omega)
  replace x2 := x2.ch r7 (by omega)
  replace x4 := x4.ch r7 (by omega)
  replace E := E.then r7 (fun x hx (e : x = b6) => show w.heap.size ≤ x by omega)
  replace x6 := x7n; clear x7n
  refine Sx.sv (r_as rfl) rfl (wnt0 rfl) ?_
  refine wnil ?_
  refine Sx.nT ?_
  refine Sx.seq ?_
  refine Sx.reg ?_
  refine Sx.sv (r_mv rfl) rfl (wnt0 rfl) ?_
  refine Sx.sv (r_eq rfl rfl) rfl (wnt0 rfl) ?_
  refine Sx.sv (r_mv rfl) rfl (wnt0 rfl) ?_
  refine Sx.sv (r_ldr ty47 rfl (x6.seg) rfl) rfl (wnt1 (dj := 15) (b0 := true) rfl rfl rfl rfl (decide_eq_true rfl) rfl) ?_
  refine Sx.sv (r_bld rfl (bd47_0_1_2_3 _ _ _ _)) rfl (wnt1 (dj := 15) (b0 := true) rfl rfl rfl rfl (decide_eq_true rfl) rfl) ?_
  refine Sx.sv (r_eqS eg47_eql rfl rfl (eqS47 _ _ _ _ _ _ _ _)) rfl (wnt1 (dj := 15) (b0 := true) rfl rfl rfl rfl (decide_eq_true rfl) rfl) ?_
  refine Sx.sv (r_pkT rfl (decide_eq_true rfl) rfl) rfl (wnt0 rfl) ?_
  refine Sx.sv (r_as rfl) rfl (wnt0 rfl) ?_
  refine wnil ?_
  refine Sx.nT ?_
  refine wp_ret ?_
  exact Sx.ret1 Tryd.results8 rfl ⟨rfl, E.toB0⟩
end Go.Proofs.YtahggnlmabdbbaaDoor.Di
