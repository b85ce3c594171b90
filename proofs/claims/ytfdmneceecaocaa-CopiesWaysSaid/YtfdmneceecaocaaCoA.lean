import Derived.Test.YtfdmneceecaocaaCoMem
import Derived.OwnWalk
import Derived.Deep.RegionLaw
import Derived.StillTailTactics
import Derived.Deep.CutBlock
import Derived.WalkSpells
import Derived.Deep.AppendLies
namespace Go.Proofs.Ytfdmneceecaocaa.Di
open Go.RowKit
open Go.Proofs.Ytfdmneceecaocaa.Tp
set_option linter.unusedVariables false
set_option linter.unusedSimpArgs false

theorem zinfo22 : (Try.prog.info? 22).map (fun i => (i.zero, i.size, i.bytes)) = some (some (.slice none 0 0), 1, 24) := by kernel_rfl
theorem made_cells (z : Value) (n : Nat) : (madeCells #[z] (n * 1)).toList = rl (fun _ => z) n := by
  rw [Nat.mul_one, toList_madeCells_one, rl_const]
theorem own_new (w : World) (B : Nat) (x : Value) (hB : B ≤ w.heap.size) : (w.alloc (.cells #[x] 3)).ownsRow B 3 1 (.slice (some ⟨w.heap.size, 0, none⟩) 1 1) 1 [x] :=
  ⟨rfl, .inr ⟨w.heap.size, 1, #[x], rfl, hB, heap_alloc_new w _, Nat.le_refl _, by unfold maxLen; omega, rfl, rfl⟩⟩
theorem own_new0 (w : World) (B : Nat) (hB : B ≤ w.heap.size) : (w.alloc (.cells #[] 3)).ownsRow B 3 1 (.slice (some ⟨w.heap.size, 0, none⟩) 0 0) 0 [] :=
  ⟨rfl, .inr ⟨w.heap.size, 0, #[], rfl, hB, heap_alloc_new w _, Nat.le_refl _, Nat.zero_le _, rfl, rfl⟩⟩
theorem Row.news {w : World} {B n : Nat} {A : Option Addr} {l : List Value} (h : Row w B 1 A n l) (hn : 0 < n) : ∃ ad, A = some ad ∧ ∀ j u, l[j]? = some u → w.cell? (ad.add j) = some u := by
  obtain ⟨b, off, e, -, -, hc⟩ := h.mem hn
  refine ⟨_, e, fun j u hu => ?_⟩
  have hadd : (⟨b, off, none⟩ : Addr).add j = ⟨b, off + j, none⟩ := by unfold Addr.add; split <;> simp_all
  rw [hadd]
  exact hc j u hu

def ClnPost (l : List Nat) (w : World) (e : Ending) (w' : World) : Prop := ∃ A cc, e = .returned (.slice A l.length cc) ∧ w'.ownsRow w.heap.size 3 1 (.slice A l.length cc) l.length (iv l) ∧ Below w.heap.size w w'
set_option maxRecDepth 100000 in
set_option maxHeartbeats 400000 in
theorem clone_any (l : List Nat) (A : Option Addr) (cc : Nat) (w : World) (h : Row w 0 1 A l.length (iv l)) (hn : 0 < l.length) (hm : l.length ≤ 1000) :
    Calls Try.prog 71 #[.slice A l.length cc] w (ClnPost l w) := by
  have hb := box_below w (.cells #[] 3)
  have hr := Row.below h hb
  obtain ⟨ad, rfl, hnews⟩ := hr.news hn
  have HNW := Lib.hid hnews
  have HB := Lib.hid hb
  have HO := Lib.hid (own_new0 w w.heap.size (Nat.le_refl _))
  obtain ⟨i0, hi1, hz0, hz1, hz2⟩ := info_parts zinfo3
  have HI := Lib.hid hi1
  have HI0 := Lib.hid hz0
  have HI1 := Lib.hid hz1
  have HI2 := Lib.hid hz2
  have HIL := Lib.hid (iv_len l)
  have HI1' := Lib.hid (iv_one l)
  clear hi1 hz0 hz1 hz2 h hb hr hnews
  have q22 : ∀ (w : World) (a : Option Addr) (n c n' c' : Nat), (binOp .eql 22 (.slice a n c) (.slice none n' c')).run Try.prog w = .ok (.bool a.isNone) w := fun w a n c n' c' => Lib.run_eql_slice_nil w _ _ a n c n' c' Try.underlying22
  go_enter Try.func71, Try.ntmps71
  go_wp2_with (at_builtin; refine wpList_append_own _ rfl (.tmp 5) (.tmp 6) 22 rfl w.heap.size 3 i0 (.int .i64 0) 1 8 Try.underlying22 HI.out HI0.out HI1.out HI2.out rfl (by decide) _ 0 [] rfl HO.out ad l.length cc (iv l) rfl HIL.out HNW.out HI1'.out (by unfold maxLen; omega) (by omega) (by simp) ?_; intro v' w6 hown hgr _; have O6 := Lib.hid hown; have B6 := Lib.hid (HB.out.grown hgr HB.out.size (fun g e => by cases e; exact Nat.le_refl _)); clear hown hgr)
  go_ret
  have ho := O6.out
  rw [Nat.zero_add, List.nil_append] at ho
  obtain ⟨A, c2, rfl⟩ := own_form ho
  exact ⟨A, c2, by first | rfl | simp, ho, B6.out⟩

def WyPost (a : Es) (c t : Int) (n : Nat) (w : World) (e : Ending) (w' : World) : Prop := ∃ G hh cc, e = .returned (.slice (some ⟨G, 0, none⟩) n n) ∧ WO w' w.heap.size n G hh cc (fun p => wyA a.e c t p) ∧ Below w.heap.size w w'
/-- While events are met. -/
def WRel (a : Es) (c t : Int) (n G : Nat) (w : World) (k : Nat) (W : World) : Prop := ∃ hh cc, WO W w.heap.size n G hh cc (fun p => wy a.e c t k p) ∧ Below w.heap.size w W
theorem WRel.same {a : Es} {c t : Int} {n G : Nat} {w : World} {k : Nat} {W : World} {hh : Nat → Option Addr} {cc : Nat → Nat} {F : Int → List Nat} (h1 : WO W w.heap.size n G hh cc (fun p => F p)) (h2 : Below w.heap.size w W) (hs : ∀ q, wy a.e c t (k + 1) q = F q) : WRel a c t n G w (k + 1) W :=
  ⟨hh, cc, h1.congr (fun p _ => (hs p).symm), h2⟩
theorem WRel.put {a : Es} {c t : Int} {n G P : Nat} {w : World} {k : Nat} {W : World} {hh : Nat → Option Addr} {cc : Nat → Nat} {F : Int → List Nat} (h1 : WO W w.heap.size n G hh cc (fun p => F p)) (h2 : Below w.heap.size w W) (hP : P < n)
    {A : Option Addr} {c' : Nat} {L : List Nat} (hrow : W.ownsRow w.heap.size 3 1 (.slice A L.length c') L.length (iv L)) (hs : ∀ q : Int, wy a.e c t (k + 1) q = if q = (P : Int) then L else F q) :
    WRel a c t n G w (k + 1) (W.setCell ⟨G, P, none⟩ (.slice A L.length c')) := by
  refine ⟨_, _, (h1.put hP hrow).congr (fun p _ => ?_), h2.grown (own_put (u := .slice A L.length c') h1.out hP).2.2.2 h2.size (fun g e => by cases e; exact h1.lt.1)⟩
  rw [hs]
  by_cases e : p = P
  · rw [if_pos e, if_pos (by rw [e])]
  · rw [if_neg e, if_neg (by omega)]
theorem WO.grown2 {w w' w0 : World} {B B0 n G : Nat} {h : Nat → Option Addr} {cc : Nat → Nat} {f : Nat → List Nat} (H : WO w B n G h cc f) (H0 : WO w0 B0 n G h cc f) {v : Value} {m B' : Nat} {xs : List Value} (hv : w.ownsRow B' 3 1 v m xs) (hB : w0.heap.size ≤ B') (hg : w.grownBy w' v.ownBlock) : WO w' B n G h cc f := by
  refine ⟨kept_ne H.out hg (fun g e e2 => own_ne hv H.out (by decide) g e e2), fun p hp => ?_⟩
  refine kept_ne (H.row p hp) hg (fun g e e2 => ?_)
  have := (hv.lt g e).1
  have := ((H0.row p hp).lt g e2).2
  omega
theorem WRel.puts {a : Es} {c t : Int} {n G P : Nat} {w : World} {k lf : Nat} {W : World} {hh : Nat → Option Addr} {cc : Nat → Nat} {F : Int → List Nat} {L : List Nat} (h1 : WO W w.heap.size n G hh cc (fun p => F p)) (h2 : Below w.heap.size w W) (hP : P < n)
    {A : Option Addr} {c' : Nat} (hlf : L.length = lf) (hrow : W.ownsRow w.heap.size 3 1 (.slice A (lf + 1) c') (lf + 1) (iv L ++ [.int .i64 (k : Int)])) (hs : ∀ q : Int, wy a.e c t (k + 1) q = if q = (P : Int) then L ++ [k] else F q) :
    WRel a c t n G w (k + 1) (W.setCell ⟨G, P, none⟩ (.slice A (lf + 1) c')) := by
  have e : (L ++ [k]).length = lf + 1 := by simp [hlf]
  have := WRel.put h1 h2 hP (L := L ++ [k]) (A := A) (c' := c') (by rw [e, iv_snoc]; exact hrow) hs
  rw [e] at this
  exact this
set_option maxRecDepth 100000 in
set_option maxHeartbeats 4000000 in
theorem ways_any (a : Es) (v : Ve) (c t : Int) (n : Nat) (w : World) (h : EL w 0 a v) (hok : Eok a) (hn : a.n = (n : Int)) :
    Calls Try.prog 59 #[.agg (ge a v), .int .i64 c, .int .i64 t] w (WyPost a c t n w) := by
  obtain ⟨A, vc⟩ := v
  have hn1 := hok.n1
  have hn16 := hok.n16
  have hm := hok.m
  have HOK := Lib.hid hok
  have HE := Lib.hid h
  have HB0 := Lib.hid (box_below w (.cells (ge a ⟨A, vc⟩) 25))
  have R0 := Lib.hid (heap_alloc_new w (.cells (ge a ⟨A, vc⟩) 25))
  obtain ⟨g0, g1⟩ := geCells R0.out
  obtain ⟨i0, hi1, hz0, hz1, hz2⟩ := info_parts zinfo22
  have HI := Lib.hid hi1
  have HI0 := Lib.hid hz0
  have HI1 := Lib.hid hz1
  have HI2 := Lib.hid hz2
  obtain ⟨j0, hj1, hy0, hy1, hy2⟩ := info_parts zinfo3
  have HJ := Lib.hid hj1
  have HJ0 := Lib.hid hy0
  have HJ1 := Lib.hid hy1
  have HJ2 := Lib.hid hy2
  have hz : (w.alloc (.cells (ge a ⟨A, vc⟩) 25)).heap.size = w.heap.size + 1 := by simp
  clear hi1 hz0 hz1 hz2 hj1 hy0 hy1 hy2 h hok
  go_enter Try.func59, Try.ntmps59
  go_wp2_with (at_make; refine wpList_make_full _ rfl _ _ 84 rfl w.heap.size 22 i0 (.slice none 0 0) 1 Try.underlying84 HI.out HI0.out HI1.out .i64 .i64 _ _ n rfl rfl (by first | rfl | exact hn) (by first | rfl | exact hn) (by rw [HI2.out]; omega) (by unfold maxLen; omega) (by rw [hz]; exact Nat.le_succ _) ?_; intro w1 hown hgr; rw [hz] at hown; have HOWN := Lib.hid hown; have HGR := Lib.hid hgr; have R1 := Lib.hid ((hgr.block _ (row_lt R0.out) (by simp)).trans R0.out); clear hown hgr g0 g1; obtain ⟨g0, g1⟩ := geCells R1.out)
  have HB1 := Lib.hid (HB0.out.grown HGR.out HB0.out.size (fun k e => by cases e))
  have HW1 := Lib.hid (show WRel a c t n (w.heap.size + 1) w 0 w1 from by
    refine ⟨fun _ => none, fun _ => 0, ⟨?_, fun p hp => own_nil _ _ _ _⟩, HB1.out⟩
    have e := HOWN.out
    rw [show Value.cells (.slice none 0 0) = #[.slice none 0 0] from rfl, made_cells] at e
    exact e)
  clear HOWN HGR g0 g1 R0 R1
  go_loopw [16] (fun ii wr => ∃ k : Nat, k ≤ a.e.length ∧ ii = .int .i64 (k : Int) ∧ WRel a c t n (w.heap.size + 1) w k wr) (fun ii _ => a.e.length - (intOf ii).toNat)
  case atStart => exact ⟨0, by omega, rfl, HW1.out⟩
  case round =>
    obtain ⟨k, hk, rfl, hh, cc, hwo, hbl⟩ := hrel
    have HWO := Lib.hid hwo
    have HBL := Lib.hid hbl
    clear hwo hbl HW1 HB1
    by_cases hlt : k < a.e.length
    · obtain ⟨b, off, hA, -, hbk, hac⟩ := (Row.below HE.out HBL.out).ac hlt
      have hA : A = some ⟨b, off, none⟩ := hA
      subst hA
      obtain ⟨y0, y1, y2, y3, y4, y5, y6⟩ := hac
      have hev := HOK.out.e k hlt
      have HEND := Lib.hid (fun h => HOK.out.wy_end c t hlt h)
      have hst : ∀ q, wy a.e c t (k + 1) q = if t < (ag a.e k).t then wy a.e c t k q else wst k (ag a.e k) c (wy a.e c t k) q := fun q => by rw [wy]; split <;> rfl
      have HST := Lib.hid hst
      have HFL := Lib.hid (wy_len a.e c t k)
      clear hst
      generalize ag a.e k = x at *
      generalize hF : wy a.e c t k = F at *
      have HF := Lib.hid hF
      clear hF
      obtain ⟨xt, xk, xp, xr, xu, xc, xf⟩ := x
      simp only at y0 y1 y2 y3 y4 y5 y6
      have hbx := box_below wr (.cells #[.int .i64 xt, .int .i64 xk, .int .i64 xp, .int .i64 xr, .int .i64 xu, .int .i64 xc, .int .i64 xf] 52)
      obtain ⟨n0, n1, n2, n3, n4, n5, n6⟩ := accCells (x := ⟨xt, xk, xp, xr, xu, xc, xf⟩) (heap_alloc_new wr (.cells #[.int .i64 xt, .int .i64 xk, .int .i64 xp, .int .i64 xr, .int .i64 xu, .int .i64 xc, .int .i64 xf] 52))
      simp only at n0 n1 n2 n3 n4 n5 n6
      have WX := Lib.hid (HWO.out.below hbx)
      have BX := Lib.hid (HBL.out.trans (hbx.mono HBL.out.size))
      have XN := Lib.hid (heap_alloc_new wr (.cells #[.int .i64 xt, .int .i64 xk, .int .i64 xp, .int .i64 xr, .int .i64 xu, .int .i64 xc, .int .i64 xf] 52))
      have hwsz := HBL.out.size
      have hsz1 : (wr.alloc (.cells #[.int .i64 xt, .int .i64 xk, .int .i64 xp, .int .i64 xr, .int .i64 xu, .int .i64 xc, .int .i64 xf] 52)).heap.size = wr.heap.size + 1 := by simp
      obtain ⟨-, -, hp0, hp1, hfit⟩ := hev
      simp only at hp0 hp1
      have j0' : (0 : Int) ≤ (k : Int) := by omega
      have j1' : (k : Int) < (a.e.length : Int) := by omega
      obtain ⟨P, rfl⟩ : ∃ P : Nat, xp = (P : Int) := ⟨xp.toNat, by omega⟩
      have hPn : P < n := by omega
      have P0 : (0 : Int) ≤ (P : Int) := by omega
      have P1 : (P : Int) < (n : Int) := by omega
      have HFIT := Lib.hid hfit
      clear hbx hfit hp0 hp1
      by_cases ht : t < xt
      · have d1 : decide (t < xt) = true := decide_eq_true ht
        have HEQ := Lib.hid (HEND.out ht)
        clear ht
        go_wp2_with fail
        go_ret
        exact ⟨_, hh, cc, rfl, WX.out.congr (fun p _ => by unfold wyA; rw [HEQ.out]), BX.out⟩
      · have d1 : decide (t < xt) = false := decide_eq_false ht
        have HS2 := Lib.hid (fun q => (HST.out q).trans (if_neg ht))
        clear ht
        by_cases h5 : xk = 5
        · subst h5
          by_cases hc : xc = c
          · have d2 : (xc == c) = true := by rw [hc]; simp
            have HS3 := Lib.hid (fun q => show wy a.e c t (k + 1) q = if q = (P : Int) then [k] else F q by rw [HS2.out]; unfold wst; simp [hc])
            obtain ⟨cz, fz⟩ := WX.out.cell hPn
            have WN := Lib.hid (WX.out.below (box_below (wr.alloc (.cells #[.int .i64 xt, .int .i64 5, .int .i64 P, .int .i64 xr, .int .i64 xu, .int .i64 xc, .int .i64 xf] 52)) (.cells #[.int .i64 (k : Int)] 3)))
            have BN := Lib.hid (BX.out.trans ((box_below (wr.alloc (.cells #[.int .i64 xt, .int .i64 5, .int .i64 P, .int .i64 xr, .int .i64 xu, .int .i64 xc, .int .i64 xf] 52)) (.cells #[.int .i64 (k : Int)] 3)).mono BX.out.size))
            have ON := Lib.hid (own_new (wr.alloc (.cells #[.int .i64 xt, .int .i64 5, .int .i64 P, .int .i64 xr, .int .i64 xu, .int .i64 xc, .int .i64 xf] 52)) w.heap.size (.int .i64 (k : Int)) BX.out.size)
            rw [hsz1] at ON
            obtain ⟨cz2, fz2⟩ := WN.out.cell hPn
            clear hc
            go_wp2_with fail
            exact ⟨⟨k + 1, by omega, by go_num, WRel.put WN.out BN.out hPn (L := [k]) ON.out HS3.out⟩, by simp [intOf]; omega⟩
          · have d2 : (xc == c) = false := beq_eq_false_iff_ne.2 hc
            have HS3 := Lib.hid (fun q => show wy a.e c t (k + 1) q = F q by rw [HS2.out]; unfold wst; simp [hc])
            clear hc
            go_wp2_with fail
            exact ⟨⟨k + 1, by omega, by go_num, WRel.same WX.out BX.out HS3.out⟩, by simp [intOf]; omega⟩
        · have d5 : (xk == 5) = false := beq_eq_false_iff_ne.2 h5
          by_cases h6 : xk = 6
          · subst h6
            by_cases hc : xc = c
            · have d2 : (xc == c) = true := by rw [hc]; simp
              have HS3 := Lib.hid (fun q => show wy a.e c t (k + 1) q = if q = (P : Int) then [] else F q by rw [HS2.out]; unfold wst; simp [hc])
              obtain ⟨cz, fz⟩ := WX.out.cell hPn
              clear hc h5
              go_wp2_with fail
              exact ⟨⟨k + 1, by omega, by go_num, WRel.put WX.out BX.out hPn (L := []) (own_nil _ _ _ _) HS3.out⟩, by simp [intOf]; omega⟩
            · have d2 : (xc == c) = false := beq_eq_false_iff_ne.2 hc
              have HS3 := Lib.hid (fun q => show wy a.e c t (k + 1) q = F q by rw [HS2.out]; unfold wst; simp [hc])
              clear hc h5
              go_wp2_with fail
              exact ⟨⟨k + 1, by omega, by go_num, WRel.same WX.out BX.out HS3.out⟩, by simp [intOf]; omega⟩
          · have d6 : (xk == 6) = false := beq_eq_false_iff_ne.2 h6
            by_cases h7 : xk = 7
            · subst h7
              obtain ⟨hf0, hf1, hfp, -⟩ := (by rcases HFIT.out with ⟨h, _⟩ | ⟨h, _⟩ | ⟨h, _⟩ | ⟨h, _⟩ | ⟨_, h⟩ <;> (try (simp at h)) ; exact h : 0 ≤ xf ∧ xf < a.n ∧ xf ≠ (P : Int) ∧ xr = 0 ∧ xu = 0 ∧ xc = 0)
              obtain ⟨Fr, rfl⟩ : ∃ Fr : Nat, xf = (Fr : Int) := ⟨xf.toNat, by omega⟩
              have hFn : Fr < n := by omega
              have F0 : (0 : Int) ≤ (Fr : Int) := by omega
              have F1 : (Fr : Int) < (n : Int) := by omega
              obtain ⟨cz, fz⟩ := WX.out.cell hPn
              obtain ⟨cf, -⟩ := WX.out.cell hFn
              have HS3 := Lib.hid (fun q => show wy a.e c t (k + 1) q = if q = (P : Int) ∧ F Fr ≠ [] ∧ F q = [] then F Fr ++ [k] else F q by rw [HS2.out]; unfold wst; simp)
              have hflk := HFL.out Fr
              clear h5 h6
              have hcl := (fun w' hb => clone_any (F Fr) (hh Fr) (cc Fr) w' ((row_of_own (own_below (WX.out.row Fr hFn) hb)).base (Nat.zero_le _)))
              unfold ClnPost at hcl
              obtain ⟨lf, hlf⟩ : ∃ lf, (F Fr).length = lf := ⟨_, rfl⟩
              obtain ⟨lp, hlp⟩ : ∃ lp, (F P).length = lp := ⟨_, rfl⟩
              rw [hlf] at hflk
              replace cf : World.cell? _ _ = some (Value.slice (hh Fr) (F Fr).length (cc Fr)) := cf
              replace cz : World.cell? _ _ = some (Value.slice (hh P) (F P).length (cc P)) := cz
              rw [hlf] at cf hcl
              have HCL := Lib.hid hcl
              clear hcl
              rw [hlp] at cz
              have HLF := Lib.hid hlf
              have HLP := Lib.hid hlp
              clear hlf hlp
              by_cases e1 : lf = 0
              · have HS4 := Lib.hid (fun q => (HS3.out q).trans (if_neg (fun (h : q = (P : Int) ∧ F Fr ≠ [] ∧ F q = []) => h.2.1 (List.length_eq_zero_iff.1 (HLF.out.trans e1)))))
                subst e1
                go_wp2_with fail
                exact ⟨⟨k + 1, by omega, by go_num, WRel.same WX.out BX.out HS4.out⟩, by simp [intOf]; omega⟩
              · have d1' : decide ((0 : Int) < (lf : Int)) = true := decide_eq_true (by omega)
                have d1'' : decide (0 < lf) = true := decide_eq_true (by omega)
                by_cases e2 : lp = 0
                · have HS4 := Lib.hid (fun q => show wy a.e c t (k + 1) q = if q = (P : Int) then F Fr ++ [k] else F q by
                    rw [HS3.out]
                    by_cases e : q = (P : Int)
                    · subst e; rw [if_pos ⟨rfl, fun h => e1 (by rw [← HLF.out, h]; rfl), List.length_eq_zero_iff.1 (HLP.out.trans e2)⟩, if_pos rfl]
                    · rw [if_neg (fun h => e h.1), if_neg e])
                  subst e2
                  have e1' : 0 < lf := by omega
                  clear e1
                  go_wp2_with fail
                  clear n0 n1 n3 n4 n5
                  generalize hwx : wr.alloc (.cells #[.int .i64 xt, .int .i64 7, .int .i64 P, .int .i64 xr, .int .i64 xu, .int .i64 xc, .int .i64 Fr] 52) = wx at *
                  clear hwx
                  have z2 := (World.cell?_alloc_lt wx (.cells #[.int .i64 (k : Int)] 3) ⟨wr.heap.size, 2, none⟩ (by show wr.heap.size < _; omega)).trans n2
                  have z6 := (World.cell?_alloc_lt wx (.cells #[.int .i64 (k : Int)] 3) ⟨wr.heap.size, 6, none⟩ (by show wr.heap.size < _; omega)).trans n6
                  have cf2 := (World.cell?_alloc_lt wx (.cells #[.int .i64 (k : Int)] 3) ⟨w.heap.size + 1, Fr, none⟩ WX.out.lt.2).trans cf
                  go_region_law (first
                    | (go_simp; go_at_call 71; (with_reducible refine (HCL.out _ ?_ (by omega) (by omega)).mono ?_); (first | exact Below.refl _ _ | exact (Below.refl _ _).drew | exact box_below _ _ | exact (box_below _ _).drew | exact (Below.refl _ _).drew.trans ((box_below wx.drew _).mono (Nat.le_refl _)) | exact ((Below.refl _ _).drew.trans ((box_below wx.drew _).mono (Nat.le_refl _))).drew); rintro e w3 ⟨A3, c3, rfl, hown3, hb3⟩; have P3 := Lib.hid (show Below wx.heap.size wx w3 from (by first | exact hb3 | exact (Below.refl _ _).drew.trans (hb3.mono (Nat.le_refl _)) | exact (box_below wx _).trans (hb3.mono (by simp)) | exact (Below.refl _ _).drew.trans ((box_below wx.drew _).trans (hb3.mono (by simp))) | exact ((Below.refl _ _).drew.trans ((box_below wx.drew _).mono (Nat.le_refl _))).drew.trans (hb3.mono (Nat.le_succ _)))); have O3 := Lib.hid (show w3.ownsRow wx.heap.size 3 1 (.slice A3 lf c3) lf (iv (F Fr)) from (by first | exact hown3 | exact own_base hown3 (by simp))); (first | (have K3 := Lib.hid ((hb3.block wx.heap.size (by simp)).trans (heap_alloc_new wx _))) | (have K3 := Lib.hid (show w3.heap[wx.heap.size]? = _ from (hb3.block wx.heap.size (Nat.lt_succ_self _)).trans (heap_alloc_new wx.drew _))) | skip); have B3 := Lib.hid (BX.out.trans (P3.out.mono BX.out.size)); have hs3 := P3.out.size; have n2c := (P3.out.cell (p := ⟨wr.heap.size, 2, none⟩) (by show wr.heap.size < _; omega)).trans n2; have n2e := fun o => (World.cell?_alloc_lt w3 o ⟨wr.heap.size, 2, none⟩ (by show wr.heap.size < _; omega)).trans n2c; clear hown3 hb3)
                    | (refine step_append_lies _ rfl (.tmp 75) (.tmp 77) 22 rfl wx.heap.size 3 j0 (.int .i64 0) 1 8 Try.underlying22 HJ.out HJ0.out HJ1.out HJ2.out rfl (by decide) (.slice A3 lf c3) lf (iv (F Fr)) (by simp [Act.eval, Act.put]) (show World.ownsRow (w3.alloc (.cells #[.int .i64 (k : Int)] 3)) _ _ _ _ _ _ from O3.out.alloc (.cells #[.int .i64 (k : Int)] 3)) ⟨w3.heap.size, 0, none⟩ 1 1 [.int .i64 (k : Int)] (by simp [Act.eval, Act.put]) rfl (World.news_of_block (show (w3.alloc (.cells #[.int .i64 (k : Int)] 3)).heap[w3.heap.size]? = _ from heap_alloc_new w3 (.cells #[.int .i64 (k : Int)] 3))) (fun u hu => by rw [List.mem_singleton] at hu; subst hu; rfl) (by decide) (by unfold maxLen; omega) (by omega) (by first | exact hs3 | (simp; omega)) _ rfl ?_; intro g5 c5 w5 hown5 hgr _ _; have W5 := Lib.hid (WO.grown2 ((WX.out.below P3.out).below (box_below w3 (.cells #[.int .i64 (k : Int)] 3))) WX.out (show World.ownsRow (w3.alloc (.cells #[.int .i64 (k : Int)] 3)) _ _ _ _ _ _ from O3.out.alloc (.cells #[.int .i64 (k : Int)] 3)) (Nat.le_refl _) hgr); have B5 := Lib.hid ((B3.out.trans ((box_below w3 (.cells #[.int .i64 (k : Int)] 3)).mono B3.out.size)).grown hgr (B3.out.trans ((box_below w3 (.cells #[.int .i64 (k : Int)] 3)).mono B3.out.size)).size (fun g e => Nat.le_trans BX.out.size (O3.out.lt g e).1)); have HP5 := Lib.hid (WRel.puts W5.out B5.out hPn HLF.out (own_base hown5 BX.out.size) HS4.out); obtain ⟨c5z, f5z⟩ := W5.out.cell hPn; have n2d := (World.cell?_of_block (a := ⟨wr.heap.size, 2, none⟩) (hgr.block wr.heap.size (by first | omega | (simp; omega) | exact Nat.lt_succ_of_lt (by omega)) (fun e => by have := (O3.out.lt _ e.symm).1; omega))).trans (by first | exact n2c | exact n2e _); clear hown5 hgr)
                    | (refine step_append_lies _ rfl (.tmp 75) (.tmp 77) 22 rfl wx.heap.size 3 j0 (.int .i64 0) 1 8 Try.underlying22 HJ.out HJ0.out HJ1.out HJ2.out rfl (by decide) (.slice A3 lf c3) lf (iv (F Fr)) (by simp [Act.eval, Act.put]) (show World.ownsRow (World.drew (w3.alloc (.cells #[.int .i64 (k : Int)] 3))) _ _ _ _ _ _ from O3.out.alloc (.cells #[.int .i64 (k : Int)] 3)) ⟨w3.heap.size, 0, none⟩ 1 1 [.int .i64 (k : Int)] (by simp [Act.eval, Act.put]) rfl (World.news_of_block (show (World.drew (w3.alloc (.cells #[.int .i64 (k : Int)] 3))).heap[w3.heap.size]? = _ from heap_alloc_new w3 (.cells #[.int .i64 (k : Int)] 3))) (fun u hu => by rw [List.mem_singleton] at hu; subst hu; rfl) (by decide) (by unfold maxLen; omega) (by omega) (by first | exact hs3 | (simp; omega)) _ rfl ?_; intro g5 c5 w5 hown5 hgr _ _; have W5 := Lib.hid (WO.grown2 ((WX.out.below P3.out).below (box_below w3 (.cells #[.int .i64 (k : Int)] 3))).drew WX.out (show World.ownsRow (World.drew (w3.alloc (.cells #[.int .i64 (k : Int)] 3))) _ _ _ _ _ _ from O3.out.alloc (.cells #[.int .i64 (k : Int)] 3)) (Nat.le_refl _) hgr); have B5 := Lib.hid ((B3.out.trans ((box_below w3 (.cells #[.int .i64 (k : Int)] 3)).mono B3.out.size)).drew.grown hgr (B3.out.trans ((box_below w3 (.cells #[.int .i64 (k : Int)] 3)).mono B3.out.size)).size (fun g e => Nat.le_trans BX.out.size (O3.out.lt g e).1)); have HP5 := Lib.hid (WRel.puts W5.out B5.out hPn HLF.out (own_base hown5 BX.out.size) HS4.out); obtain ⟨c5z, f5z⟩ := W5.out.cell hPn; have n2d := (World.cell?_of_block (a := ⟨wr.heap.size, 2, none⟩) (hgr.block wr.heap.size (by first | omega | (simp; omega) | exact Nat.lt_succ_of_lt (by omega)) (fun e => by have := (O3.out.lt _ e.symm).1; omega))).trans (by first | exact n2c | exact n2e _); clear hown5 hgr)
                    | (refine step_append_lies _ rfl (.tmp 75) (.tmp 77) 22 rfl wx.heap.size 3 j0 (.int .i64 0) 1 8 Try.underlying22 HJ.out HJ0.out HJ1.out HJ2.out rfl (by decide) (.slice A3 lf c3) lf (iv (F Fr)) (by simp [Act.eval, Act.put]) (show World.ownsRow w3 _ _ _ _ _ _ from O3.out) ⟨wx.heap.size, 0, none⟩ 1 1 [.int .i64 (k : Int)] (by simp [Act.eval, Act.put]) rfl (World.news_of_block (show w3.heap[wx.heap.size]? = _ from K3.out)) (fun u hu => by rw [List.mem_singleton] at hu; subst hu; rfl) (by decide) (by unfold maxLen; omega) (by omega) (by first | exact hs3 | (simp; omega)) _ rfl ?_; intro g5 c5 w5 hown5 hgr _ _; have W5 := Lib.hid (WO.grown2 (WX.out.below P3.out) WX.out (show World.ownsRow w3 _ _ _ _ _ _ from O3.out) (Nat.le_refl _) hgr); have B5 := Lib.hid (B3.out.grown hgr B3.out.size (fun g e => Nat.le_trans BX.out.size (O3.out.lt g e).1)); have HP5 := Lib.hid (WRel.puts W5.out B5.out hPn HLF.out (own_base hown5 BX.out.size) HS4.out); obtain ⟨c5z, f5z⟩ := W5.out.cell hPn; have n2d := (World.cell?_of_block (a := ⟨wr.heap.size, 2, none⟩) (hgr.block wr.heap.size (by first | omega | (simp; omega) | exact Nat.lt_succ_of_lt (by omega)) (fun e => by have := (O3.out.lt _ e.symm).1; omega))).trans (by first | exact n2c | exact n2e _); clear hown5 hgr)
                    | (refine step_append_lies _ rfl (.tmp 75) (.tmp 77) 22 rfl wx.heap.size 3 j0 (.int .i64 0) 1 8 Try.underlying22 HJ.out HJ0.out HJ1.out HJ2.out rfl (by decide) (.slice A3 lf c3) lf (iv (F Fr)) (by simp [Act.eval, Act.put]) (show World.ownsRow (World.drew w3) _ _ _ _ _ _ from O3.out) ⟨wx.heap.size, 0, none⟩ 1 1 [.int .i64 (k : Int)] (by simp [Act.eval, Act.put]) rfl (World.news_of_block (show (World.drew w3).heap[wx.heap.size]? = _ from K3.out)) (fun u hu => by rw [List.mem_singleton] at hu; subst hu; rfl) (by decide) (by unfold maxLen; omega) (by omega) (by first | exact hs3 | (simp; omega)) _ rfl ?_; intro g5 c5 w5 hown5 hgr _ _; have W5 := Lib.hid (WO.grown2 (WX.out.below P3.out).drew WX.out (show World.ownsRow (World.drew w3) _ _ _ _ _ _ from O3.out) (Nat.le_refl _) hgr); have B5 := Lib.hid (B3.out.drew.grown hgr B3.out.size (fun g e => Nat.le_trans BX.out.size (O3.out.lt g e).1)); have HP5 := Lib.hid (WRel.puts W5.out B5.out hPn HLF.out (own_base hown5 BX.out.size) HS4.out); obtain ⟨c5z, f5z⟩ := W5.out.cell hPn; have n2d := (World.cell?_of_block (a := ⟨wr.heap.size, 2, none⟩) (hgr.block wr.heap.size (by first | omega | (simp; omega) | exact Nat.lt_succ_of_lt (by omega)) (fun e => by have := (O3.out.lt _ e.symm).1; omega))).trans (by first | exact n2c | exact n2e _); clear hown5 hgr))
                  all_goals
                    go_wp2_with fail
                    exact ⟨⟨k + 1, by omega, by go_num, HP5.out⟩, by simp [intOf]; omega⟩
                · have d2' : ((lp : Int) == 0) = false := beq_eq_false_iff_ne.2 (by omega)
                  have HS4 := Lib.hid (fun q => (HS3.out q).trans (if_neg (fun (h : q = (P : Int) ∧ F Fr ≠ [] ∧ F q = []) => e2 (by rw [← HLP.out, ← h.1, h.2.2]; rfl))))
                  clear e1 e2
                  go_wp2_with fail
                  exact ⟨⟨k + 1, by omega, by go_num, WRel.same WX.out BX.out HS4.out⟩, by simp [intOf]; omega⟩
            · have d7 : (xk == 7) = false := beq_eq_false_iff_ne.2 h7
              have HS3 := Lib.hid (fun q => show wy a.e c t (k + 1) q = F q by rw [HS2.out]; unfold wst; simp [h5, h6, h7])
              clear h5 h6 h7
              go_wp2_with fail
              exact ⟨⟨k + 1, by omega, by go_num, WRel.same WX.out BX.out HS3.out⟩, by simp [intOf]; omega⟩
    · obtain rfl : k = a.e.length := by omega
      go_wp2_with fail
      go_ret
      exact ⟨_, hh, cc, rfl, HWO.out, HBL.out⟩

end Go.Proofs.Ytfdmneceecaocaa.Di
