import Derived.Test.YtgknfkmojhganaaGreatAcB
import Derived.Maps.RangeWalk
import Derived.Maps.OwnSet
import Derived.Maps.Views
namespace Go.Proofs.YtgknfkmojhganaaGreat.Di
open Go.RowKit Go.Maps
open Go.Proofs.YtgknfkmojhganaaGreat.Tp
set_option linter.unusedVariables false

/-- Does the estate hold, and has it the place? -/
def exP (a : Es) (p : Int) : Prop := Eok a ∧ 0 ≤ p ∧ p < a.n
set_option maxRecDepth 100000 in
set_option maxHeartbeats 400000 in
theorem ex_yes (a : Es) (v : Ve) (p : Int) (w : World) (h : EL w 0 a v) (he : exP a p) :
    Calls Tryz.prog 87 #[.agg (ge a v), .int .i64 p] w fun e w' => e = .returned (.bool true) ∧ Below w.heap.size w w' := by
  have HB0 := Lib.hid (box_below w (.cells (ge a v) 28))
  have HR0 := Lib.hid (heap_alloc_new w (.cells (ge a v) 28))
  obtain ⟨c0, c1⟩ := geCells HR0.out
  have hck := acheck_any a v _ (Row.below h HB0.out)
  rw [ck_ok he.1] at hck
  have HCK := Lib.hid hck
  have HNU := Lib.hid (fun w => num_yes he.2.1 he.2.2 w)
  have HF := Lib.hid (show (#[.int .i64 a.n, .slice v.A a.e.length v.c] : Array Value) = ge a v from rfl)
  clear hck h he
  go_enter Tryz.func87, Tryz.ntmps87
  go_wp2_with (first
    | (go_at_call 45; rw [HF.out]; refine HCK.out.mono ?_; rintro e w1 ⟨rfl, hb1⟩; have HB1 := Lib.hid (HB0.out.trans (hb1.mono HB0.out.size)); have M1 := Lib.hid ((hb1.block _ (row_lt HR0.out)).trans HR0.out); clear hb1 c0 c1; obtain ⟨c0, c1⟩ := geCells M1.out)
    | (go_at_call 85; (with_reducible refine (HNU.out _).mono ?_); rintro e wq ⟨rfl, rfl⟩))
  go_ret
  exact ⟨by first | rfl | simp, HB1.out⟩
set_option maxRecDepth 100000 in
set_option maxHeartbeats 400000 in
theorem ex_no (a : Es) (v : Ve) (p : Int) (w : World) (h : EL w 0 a v) (he : ¬ exP a p) :
    Calls Tryz.prog 87 #[.agg (ge a v), .int .i64 p] w fun e w' => e = .returned (.bool false) ∧ Below w.heap.size w w' := by
  have HB0 := Lib.hid (box_below w (.cells (ge a v) 28))
  have HR0 := Lib.hid (heap_alloc_new w (.cells (ge a v) 28))
  obtain ⟨c0, c1⟩ := geCells HR0.out
  have hck := acheck_any a v _ (Row.below h HB0.out)
  have HF := Lib.hid (show (#[.int .i64 a.n, .slice v.A a.e.length v.c] : Array Value) = ge a v from rfl)
  by_cases ho : Eok a
  · rw [ck_ok ho] at hck
    have HCK := Lib.hid hck
    have HNU := Lib.hid (fun w => num_no (n := p) (s := a.n) (fun hp => he ⟨ho, hp⟩) w)
    clear hck h he ho
    go_enter Tryz.func87, Tryz.ntmps87
    go_wp2_with (first
      | (go_at_call 45; rw [HF.out]; refine HCK.out.mono ?_; rintro e w1 ⟨rfl, hb1⟩; have HB1 := Lib.hid (HB0.out.trans (hb1.mono HB0.out.size)); have M1 := Lib.hid ((hb1.block _ (row_lt HR0.out)).trans HR0.out); clear hb1 c0 c1; obtain ⟨c0, c1⟩ := geCells M1.out)
      | (go_at_call 85; (with_reducible refine (HNU.out _).mono ?_); rintro e wq ⟨rfl, rfl⟩))
    go_ret
    exact ⟨by first | rfl | simp, HB1.out⟩
  · rw [ck_no ho] at hck
    have HCK := Lib.hid hck
    clear hck h he ho
    go_enter Tryz.func87, Tryz.ntmps87
    go_wp2_with (go_at_call 45; rw [HF.out]; refine HCK.out.mono ?_; rintro e w1 ⟨rfl, hb1⟩; have HB1 := Lib.hid (HB0.out.trans (hb1.mono HB0.out.size)); clear hb1 c0 c1)
    go_ret
    exact ⟨by first | rfl | simp, HB1.out⟩

/-- The grants of a place, as a map. -/
def gm (l : List Ac) (p t : Int) : Nat → DataW Unit
  | 0 => .map []
  | k + 1 => if t < (ag l k).t ∨ (ag l k).p ≠ p then gm l p t k else if (ag l k).k = 1 then (gm l p t k).put (.int .i64 (ag l k).r) (.lit (.int .i64 (k : Int))) else if (ag l k).k = 2 then (gm l p t k).del (.int .i64 (ag l k).r) else gm l p t k
theorem gm_map (l : List Ac) (p t : Int) : ∀ k, IsMap (gm l p t k)
  | 0 => isMap_empty
  | k + 1 => by
    have ih := gm_map l p t k
    rw [gm]
    split
    · exact ih
    · split
      · exact ih.put _ _
      · split
        · exact ih.del _
        · exact ih
theorem lit_ne {r r' : Int} (h : r ≠ r') : (Lit.int .i64 r) ≠ (Lit.int .i64 r') := fun e => h (by injection e)
theorem gm_has (l : List Ac) (p t r : Int) : ∀ k, Maps.has (gm l p t k) (.int .i64 r) = (gr l p t r k).isSome
  | 0 => rfl
  | k + 1 => by
    have ih := gm_has l p t r k
    rw [gm, gr]
    split
    · exact ih
    · split
      · by_cases e : (ag l k).r = r
        · rw [if_pos e, e]; exact has_put_same (k := .int .i64 r) (gm_map l p t k) (show WideAt.IsKeyLit (.int .i64 r) from trivial) _
        · rw [if_neg e, has_put_other (lit_ne (Ne.symm e))]; exact ih
      · split
        · by_cases e : (ag l k).r = r
          · rw [if_pos e, e]; exact has_del_same
          · rw [if_neg e, has_del_other (lit_ne (Ne.symm e))]; exact ih
        · exact ih
/-- The number that the map has at a principal. -/
def on (o : Option Nat) : Int := match o with | some i => (i : Int) | none => 0
theorem gm_at (l : List Ac) (p t r : Int) : ∀ k, (gm l p t k).atKey (.int .i64 r) (.lit (.int .i64 0)) = .lit (.int .i64 (on (gr l p t r k)))
  | 0 => rfl
  | k + 1 => by
    have ih := gm_at l p t r k
    rw [gm, gr]
    split
    · exact ih
    · split
      · by_cases e : (ag l k).r = r
        · rw [if_pos e, e]; exact atKey_put_same (k := .int .i64 r) (gm_map l p t k) (show WideAt.IsKeyLit (.int .i64 r) from trivial) _ _
        · rw [if_neg e, atKey_put_other (lit_ne (Ne.symm e))]; exact ih
      · split
        · by_cases e : (ag l k).r = r
          · rw [if_pos e, e]; exact atKey_del_same _
          · rw [if_neg e, atKey_del_other (lit_ne (Ne.symm e))]; exact ih
        · exact ih
theorem law3 : Keyed Tryz.prog 3 := int_keyed Tryz.underlying3
def GrPost (a : Es) (p t : Int) (w : World) (e : Ending) (w' : World) : Prop := ∃ b, e = .returned (.map (some b)) ∧ w'.ownsMap Tryz.prog 3 (plainElem (H := Unit) Tryz.prog 3) b 120 (gm a.e p t a.e.length) ∧ w.heap.size ≤ b ∧ Below w.heap.size w w'

set_option maxRecDepth 100000 in
set_option maxHeartbeats 2000000 in
theorem grants_any (a : Es) (v : Ve) (p t : Int) (w : World) (h : EL w 0 a v) (hok : Eok a) :
    Calls Tryz.prog 94 #[.agg (ge a v), .int .i64 p, .int .i64 t] w (GrPost a p t w) := by
  obtain ⟨A, vc⟩ := v
  have hlen := hok.m
  have HOK := Lib.hid hok
  have HD := Lib.hid h
  have HR0 := Lib.hid ((heap_alloc_old (w.alloc (.cells (ge a ⟨A, vc⟩) 28)) (.map #[] 0) (r := w.heap.size) (by simp)).trans (heap_alloc_new w (.cells (ge a ⟨A, vc⟩) 28)))
  have HB0 := Lib.hid ((box_below w (.cells (ge a ⟨A, vc⟩) 28)).trans ((box_below (w.alloc (.cells (ge a ⟨A, vc⟩) 28)) (.map #[] 0)).mono (by simp)))
  have hm0 := World.ownsMap_made (w.alloc (.cells (ge a ⟨A, vc⟩) 28)) Tryz.prog 3 (plainElem (H := Unit) Tryz.prog 3)
  have hz : (w.alloc (.cells (ge a ⟨A, vc⟩) 28)).heap.size = w.heap.size + 1 := by simp
  rw [hz] at hm0
  have HM0 := Lib.hid hm0
  have hmm := @run_makeMap Tryz.prog
  have HS := Lib.hid (show ∀ k, gm a.e p t (k + 1) = if t < (ag a.e k).t ∨ (ag a.e k).p ≠ p then gm a.e p t k else if (ag a.e k).k = 1 then (gm a.e p t k).put (.int .i64 (ag a.e k).r) (.lit (.int .i64 (k : Int))) else if (ag a.e k).k = 2 then (gm a.e p t k).del (.int .i64 (ag a.e k).r) else gm a.e p t k from fun k => rfl)
  have H0 := Lib.hid (show gm a.e p t 0 = .map [] from rfl)
  unfold GrPost
  have HV := Lib.hid (show gm a.e p t a.e.length = gm a.e p t a.e.length from rfl)
  generalize hG : gm a.e p t = G at *
  clear hG hm0 hz h hok
  obtain ⟨c0, c1⟩ := geCells HR0.out
  have hbz : w.heap.size + 1 < ((w.alloc (.cells (ge a ⟨A, vc⟩) 28)).alloc (.map #[] 0)).heap.size := by simp
  obtain ⟨z0, z1⟩ := geCells (a := a) (v := ⟨A, vc⟩) (heap_alloc_new w (.cells (ge a ⟨A, vc⟩) 28))
  go_enter Tryz.func94, Tryz.ntmps94
  go_wp2_with fail
  clear c0 c1 z0 z1
  go_loopw [14] (fun ii wr => ∃ k : Nat, k ≤ a.e.length ∧ ii = .int .i64 (k : Int) ∧ wr.ownsMap Tryz.prog 3 (plainElem (H := Unit) Tryz.prog 3) (w.heap.size + 1) k (G k) ∧ Below w.heap.size w wr) (fun ii _ => a.e.length - (intOf ii).toNat)
  case atStart => exact ⟨0, by omega, rfl, by rw [H0.out]; exact HM0.out, HB0.out⟩
  case round =>
    obtain ⟨k, hk, rfl, hown, hbl⟩ := hrel
    have HOWN := Lib.hid hown
    have HBL := Lib.hid hbl
    clear hown hbl
    by_cases hlt : k < a.e.length
    · obtain ⟨b, off, hA, -, hbk, hac⟩ := (Row.below HD.out HBL.out).ac hlt
      have hA : A = some ⟨b, off, none⟩ := hA
      subst hA
      obtain ⟨y0, y1, y2, y3, y4, y5, y6⟩ := hac
      have HSK := Lib.hid (HS.out k)
      obtain ⟨e1, e2, e3, e4, e5⟩ := HOK.out.e k hlt
      have hfp : ((ag a.e k).k = 1 ∨ (ag a.e k).k = 2) → 0 ≤ (ag a.e k).r ∧ (ag a.e k).r < 24 := fun hk => by unfold fitP at e5; omega
      clear e1 e2 e3 e4 e5
      generalize ag a.e k = x at *
      obtain ⟨xt, xk, xp, xr, xu, xc, xf⟩ := x
      simp only at y0 y1 y2 y3 y4 y5 y6 hfp
      have hsk := HSK.out
      simp only at hsk
      have HSK := Lib.hid hsk
      have HFP := Lib.hid hfp
      have hbx := box_below wr (.cells #[.int .i64 xt, .int .i64 xk, .int .i64 xp, .int .i64 xr, .int .i64 xu, .int .i64 xc, .int .i64 xf] 76)
      have HBX := Lib.hid (HBL.out.trans (hbx.mono HBL.out.size))
      have XN := Lib.hid (heap_alloc_new wr (.cells #[.int .i64 xt, .int .i64 xk, .int .i64 xp, .int .i64 xr, .int .i64 xu, .int .i64 xc, .int .i64 xf] 76))
      have HMX := Lib.hid (HOWN.out.alloc (.cells #[.int .i64 xt, .int .i64 xk, .int .i64 xp, .int .i64 xr, .int .i64 xu, .int .i64 xc, .int .i64 xf] 76))
      obtain ⟨n0, n1, n2, n3, n4, n5, n6⟩ := accCells (x := ⟨xt, xk, xp, xr, xu, xc, xf⟩) XN.out
      simp only at n0 n1 n2 n3 n4 n5 n6
      have j0 : (0 : Int) ≤ (k : Int) := by omega
      have j1 : (k : Int) < (a.e.length : Int) := by omega
      have hle : w.heap.size ≤ w.heap.size + 1 := by omega
      clear hbx hsk hfp
      by_cases t1 : t < xt
      · have d1 : decide (t < xt) = true := decide_eq_true t1
        have HG := Lib.hid (show G (k + 1) = G k by rw [HSK.out, if_pos (.inl t1)])
        clear t1
        go_wp2_with fail
        exact ⟨⟨k + 1, by omega, by go_num, by rw [HG.out]; exact HMX.out.mono (by omega), HBX.out⟩, by simp [intOf]; omega⟩
      have d1 : decide (t < xt) = false := decide_eq_false t1
      by_cases t2 : xp = p
      · have d2 : (xp != p) = false := by rw [t2]; simp
        have HSK2 := Lib.hid (show G (k + 1) = if xk = 1 then (G k).put (.int .i64 xr) (.lit (.int .i64 (k : Int))) else if xk = 2 then (G k).del (.int .i64 xr) else G k by rw [HSK.out, if_neg (by omega)])
        clear t1 t2 HSK
        by_cases t3 : xk = 1
        · obtain ⟨f1, f2⟩ := HFP.out (.inl t3)
          have hkey : keyOf Tryz.prog 3 (.int .i64 xr) = some (.int .i64 xr) := keyOf_int_mk Tryz.underlying3 (WalkArith.wf_i64 (by omega))
          have HG := Lib.hid (show G (k + 1) = (G k).put (.int .i64 xr) (.lit (.int .i64 (k : Int))) by rw [HSK2.out, if_pos t3])
          have HKEY := Lib.hid hkey
          have HWF := Lib.hid (plainElem_int (H := Unit) (P := Tryz.prog) (e := 3) Tryz.underlying3 (WalkArith.wf_i64 (n := (k : Int)) (by omega)))
          subst t3
          clear hkey f1 f2
          go_wp2_with (at_mapUpdate; refine wpList_mapUpdate_own _ rfl _ _ _ 115 rfl 3 3 law3 Tryz.underlying115 _ (w.heap.size + 1) k _ rfl HMX.out (by unfold maxLen; omega) _ _ _ rfl rfl HKEY.out _ [] HWF.out ?_; intro w1 hown1 hgrow1; have O1 := Lib.hid hown1; have B1 := Lib.hid (HBX.out.grown hgrow1 HBX.out.size (fun j hj => by cases hj; exact hle)); clear hown1 hgrow1)
          exact ⟨⟨k + 1, by omega, by go_num, by rw [HG.out]; exact O1.out, B1.out⟩, by simp [intOf]; omega⟩
        have d3 : (xk == 1) = false := beq_eq_false_iff_ne.2 t3
        by_cases t4 : xk = 2
        · obtain ⟨f1, f2⟩ := HFP.out (.inr t4)
          have hkey : keyOf Tryz.prog 3 (.int .i64 xr) = some (.int .i64 xr) := keyOf_int_mk Tryz.underlying3 (WalkArith.wf_i64 (by omega))
          have HG := Lib.hid (show G (k + 1) = (G k).del (.int .i64 xr) by rw [HSK2.out, if_neg t3, if_pos t4])
          have HKEY := Lib.hid hkey
          subst t4
          clear hkey f1 f2 t3 d3
          go_wp2_with (at_delete; refine wpList_delete_own _ rfl _ _ 115 3 rfl 3 law3 Tryz.underlying115 _ (w.heap.size + 1) k _ rfl HMX.out _ _ rfl HKEY.out ?_; intro w1 hown1 hturn1; have O1 := Lib.hid hown1; have B1 := Lib.hid (HBX.out.grown hturn1.grown HBX.out.size (fun j hj => by cases hj; exact hle)); clear hown1 hturn1)
          exact ⟨⟨k + 1, by omega, by go_num, by rw [HG.out]; exact O1.out.mono (by omega), B1.out⟩, by simp [intOf]; omega⟩
        have d4 : (xk == 2) = false := beq_eq_false_iff_ne.2 t4
        have HG := Lib.hid (show G (k + 1) = G k by rw [HSK2.out, if_neg t3, if_neg t4])
        clear t3 t4
        go_wp2_with fail
        exact ⟨⟨k + 1, by omega, by go_num, by rw [HG.out]; exact HMX.out.mono (by omega), HBX.out⟩, by simp [intOf]; omega⟩
      · have d2 : (xp != p) = true := by rw [bne, beq_eq_false_iff_ne.2 t2]; rfl
        have HG := Lib.hid (show G (k + 1) = G k by rw [HSK.out, if_pos (.inr t2)])
        clear t1 t2
        go_wp2_with fail
        exact ⟨⟨k + 1, by omega, by go_num, by rw [HG.out]; exact HMX.out.mono (by omega), HBX.out⟩, by simp [intOf]; omega⟩
    · obtain rfl : k = a.e.length := by omega
      go_wp2_with fail
      go_ret
      exact ⟨_, rfl, HOWN.out.mono hlen, by omega, HBL.out⟩

end Go.Proofs.YtgknfkmojhganaaGreat.Di
