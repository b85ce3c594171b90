import Derived.Test.YtgknfkmojhganaaRdK
namespace Go.Proofs.Ytgknfkmojhganaa.Di
open Go.RowKit
open Go.Proofs.Ytgknfkmojhganaa.Tp
set_option linter.unusedVariables false
set_option linter.unusedSimpArgs false

/-- Who is a member of a group. -/
noncomputable def memB (d : Dy) (t g p : Nat) : Bool := rB d p && grB d t p g
set_option maxRecDepth 100000 in
set_option maxHeartbeats 4000000 in
/-- The reference's Members of a group. -/
theorem rmem_any (d : Dy) (v : Vd) (g t : Nat) (w : World) (h : DL w 0 d v) (hok : Ok d) (hg : gB d g = true) (hgl : g < d.k.length) :
    Calls Try.prog 24 #[.agg (gd d v), .int .i64 (g : Int), .int .i64 (t : Int)] w (SmPost (memB d t g) d.k.length w) := by
  have hn := hok.n
  have HB0 := Lib.hid (box_below w (.cells (gd d v) 29))
  have R0 := Lib.hid (heap_alloc_new w (.cells (gd d v) 29))
  have HVA := Lib.hid (rvalid_any d v _ (h.below HB0.out) hok)
  have hgb := fun w' (hb : Below w.heap.size w w') => rgroup_any 0 d v g w' (h.below hb) (by omega)
  rw [hg] at hgb
  have HGB := Lib.hid hgb
  have HRD := Lib.hid (fun p w' (hb : Below w.heap.size w w') => reader_any 0 d v p w' (h.below hb) (by omega))
  have HGP := Lib.hid (fun p w' (hb : Below w.heap.size w w') => rgrp_any d v p t w' (h.below hb) hok)
  have HHI := Lib.hid (fun p => has_idx (grB d t p) d.k.length g hgl)
  have HCN := Lib.hid (fun p => cnt_le (grB d t p) d.k.length)
  have HME := Lib.hid (show ∀ p, memB d t g p = (rB d p && grB d t p g) from fun p => rfl)
  have HFD := Lib.hid (show (#[.slice v.A1 d.k.length v.c1, .slice v.A2 d.e.length v.c2] : Array Value) = gd d v from rfl)
  obtain ⟨g0, g1⟩ := gdCells R0.out
  have lR := row_lt R0.out
  obtain ⟨i0, hi1, hz0, hz1, hz2⟩ := info_parts zinfo3
  have HI := Lib.hid hi1
  have HI0 := Lib.hid hz0
  have HI1 := Lib.hid hz1
  have HI2 := Lib.hid hz2
  generalize memB d t g = m at *
  unfold SmPost
  clear hi1 hz0 hz1 hz2 h hok hg hgb
  go_enter Try.func24, Try.ntmps24
  go_wp2_with (first
    | (go_at_call 42; rw [HFD.out]; refine HVA.out.mono ?_; rintro e w1 ⟨rfl, hb1⟩; have B1 := Lib.hid (HB0.out.trans (hb1.mono HB0.out.size)); have D1 := Lib.hid ((hb1.block _ lR).trans R0.out); clear hb1 g0 g1; obtain ⟨g0, g1⟩ := gdCells D1.out)
    | (go_at_call 51; rw [HFD.out]; refine (HGB.out _ B1.out).mono ?_; rintro e w2 ⟨rfl, hb2⟩; have B2 := Lib.hid (B1.out.trans (hb2.mono B1.out.size)); have D2 := Lib.hid ((hb2.block _ (row_lt D1.out)).trans D1.out); clear hb2 g0 g1; obtain ⟨g0, g1⟩ := gdCells D2.out))
  go_loopw [7, 21] (fun ov ii wr => ∃ (k : Nat) (A' : Option Addr) (c' : Nat), k ≤ d.k.length ∧ ov = .slice A' (cnt m k) c' ∧ ii = .int .i64 (k : Int) ∧ wr.ownsRow w2.heap.size 3 1 (.slice A' (cnt m k) c') (cnt m k) (iv (idx m k)) ∧ Below w2.heap.size w2 wr) (fun _ ii _ => d.k.length - (intOf ii).toNat)
  case atStart => exact ⟨0, none, 0, by omega, rfl, rfl, own_nil _ _ _ _, Below.refl _ _⟩
  case round =>
    obtain ⟨k, A', c', hk, rfl, rfl, hown, hbl⟩ := hrel
    have HO := Lib.hid hown
    have HBL := Lib.hid hbl
    have hcn := cnt_le m k
    have RB := Lib.hid ((hbl.block _ (row_lt D2.out)).trans D2.out)
    have HBW := Lib.hid (B2.out.trans (hbl.mono B2.out.size))
    clear g0 g1
    obtain ⟨g0, g1⟩ := gdCells RB.out
    by_cases hlt : k < d.k.length
    · have k0 : (0 : Int) ≤ (k : Int) := by omega
      have k1 : (k : Int) < (d.k.length : Int) := by omega
      have HRK := Lib.hid (HRD.out k)
      have HGK := Lib.hid (HGP.out k)
      have hcg := HCN.out k
      have hme := HME.out k
      have hhk := HHI.out k
      have HHK := Lib.hid (fun X xc w' (hr : Row w' 0 1 X (cnt (grB d t k) d.k.length) (iv (idx (grB d t k) d.k.length))) => (by have h := has_any (idx (grB d t k) d.k.length) g X (cnt (grB d t k) d.k.length) xc w' hr (by omega); rw [hhk] at h; exact h : Calls Try.prog 22 #[.slice X (cnt (grB d t k) d.k.length) xc, .int .i64 (g : Int)] w' fun e w'' => e = .returned (.bool (grB d t k g)) ∧ w'' = w'))
      have HIT := Lib.hid (fun h => (idx_tt h : idx m (k + 1) = idx m k ++ [k]))
      have HIF := Lib.hid (fun h => (idx_ff h : idx m (k + 1) = idx m k))
      have HCT := Lib.hid (fun h => (cnt_tt h : cnt m (k + 1) = cnt m k + 1))
      have HCF := Lib.hid (fun h => (cnt_ff h : cnt m (k + 1) = cnt m k))
      have HIS := Lib.hid (iv_snoc (idx m k) k)
      generalize m k = bo at *
      generalize grB d t k g = rg at *
      generalize cnt (grB d t k) d.k.length = nr at *
      generalize idx (grB d t k) d.k.length = LR at *
      generalize rB d k = rb at *
      clear hown hbl hhk
      cases rb with
      | false =>
        have HX := Lib.hid (HIF.out (by rw [hme]; rfl))
        have HC := Lib.hid (HCF.out (by rw [hme]; rfl))
        clear HIT HIF HCT HCF hme
        go_wp2_with (go_at_call 13; rw [HFD.out]; refine (HRK.out _ HBW.out).mono ?_; rintro e w3 ⟨rfl, hb3⟩; have B3 := Lib.hid (HBL.out.trans (hb3.mono HBL.out.size)); have O3 := Lib.hid (own_below HO.out hb3); clear hb3 g0 g1)
        exact ⟨⟨k + 1, A', c', by omega, by rw [HC.out], by go_num, by rw [HC.out, HX.out]; exact O3.out, B3.out⟩, by simp [intOf]; omega⟩
      | true =>
        cases rg with
        | false =>
          have HX := Lib.hid (HIF.out (by rw [hme]; rfl))
          have HC := Lib.hid (HCF.out (by rw [hme]; rfl))
          clear HIT HIF HCT HCF hme
          go_wp2_with (first
            | (go_at_call 13; rw [HFD.out]; refine (HRK.out _ HBW.out).mono ?_; rintro e w3 ⟨rfl, hb3⟩; have B3 := Lib.hid (HBL.out.trans (hb3.mono HBL.out.size)); have BW3 := Lib.hid (HBW.out.trans (hb3.mono HBW.out.size)); have O3 := Lib.hid (own_below HO.out hb3); have D3 := Lib.hid ((hb3.block _ (row_lt RB.out)).trans RB.out); clear hb3 g0 g1; obtain ⟨g0, g1⟩ := gdCells D3.out)
            | (go_at_call 52; rw [HFD.out]; refine (HGK.out _ BW3.out).mono ?_; rintro e w4 ⟨X, xc, rfl, hr4, hb4⟩; have B4 := Lib.hid (B3.out.trans (hb4.mono B3.out.size)); have O4 := Lib.hid (own_below O3.out hb4); have HH := Lib.hid (HHK.out X xc w4 hr4); clear hb4 hr4 g0 g1)
            | (go_at_call 22; refine HH.out.mono ?_; rintro e w4 ⟨rfl, rfl⟩))
          exact ⟨⟨k + 1, A', c', by omega, by rw [HC.out], by go_num, by rw [HC.out, HX.out]; exact O4.out, B4.out⟩, by simp [intOf]; omega⟩
        | true =>
          have HX := Lib.hid (HIT.out (by rw [hme]; rfl))
          have HC := Lib.hid (HCT.out (by rw [hme]; rfl))
          clear HIT HIF HCT HCF hme
          go_wp2_with (first
            | (go_at_call 13; rw [HFD.out]; refine (HRK.out _ HBW.out).mono ?_; rintro e w3 ⟨rfl, hb3⟩; have B3 := Lib.hid (HBL.out.trans (hb3.mono HBL.out.size)); have BW3 := Lib.hid (HBW.out.trans (hb3.mono HBW.out.size)); have O3 := Lib.hid (own_below HO.out hb3); have D3 := Lib.hid ((hb3.block _ (row_lt RB.out)).trans RB.out); clear hb3 g0 g1; obtain ⟨g0, g1⟩ := gdCells D3.out)
            | (go_at_call 52; rw [HFD.out]; refine (HGK.out _ BW3.out).mono ?_; rintro e w4 ⟨X, xc, rfl, hr4, hb4⟩; have B4 := Lib.hid (B3.out.trans (hb4.mono B3.out.size)); have O4 := Lib.hid (own_below O3.out hb4); have HH := Lib.hid (HHK.out X xc w4 hr4); have hs4 := B4.out.size; clear hb4 hr4 g0 g1)
            | (go_at_call 22; refine HH.out.mono ?_; rintro e w4 ⟨rfl, rfl⟩)
            | (at_builtin; refine wpList_append_own _ rfl (.tmp 35) (.tmp 37) 22 rfl w2.heap.size 3 i0 (.int .i64 0) 1 8 Try.underlying22 HI.out HI0.out HI1.out HI2.out rfl (by decide) _ (cnt m k) (iv (idx m k)) rfl (O4.out.alloc _) ⟨w4.heap.size, 0, none⟩ 1 1 [.int .i64 (k : Int)] rfl rfl (World.news_of_block (heap_alloc_new w4 _)) (by simp [Value.oneCell']) (by unfold maxLen; omega) (by omega) (by simp; omega) ?_; intro v' w6 hown6 hgr _; obtain ⟨A6, c6, rfl⟩ := own_form hown6; have O6 := Lib.hid hown6; have B6 := Lib.hid ((B4.out.trans ((box_below _ _).mono B4.out.size)).grown hgr (by simp; omega) (fun g e => (O4.out.lt g e).1)); clear hown6 hgr))
          exact ⟨⟨k + 1, A6, c6, by omega, by rw [HC.out], by go_num, by rw [HC.out, HX.out, HIS.out]; exact O6.out, B6.out⟩, by simp [intOf]; omega⟩
    · obtain rfl : k = d.k.length := by omega
      clear hown hbl
      go_wp2_with fail
      go_ret
      exact ⟨A', c', by first | rfl | simp, own_base HO.out B2.out.size, HBW.out⟩
/-- Grants of place 0 at one time. -/
def gl (T : Int) (l : List Nat) : List Ac := l.map (fun (p : Nat) => (⟨T, 1, 0, (p : Int), 0, 0, 0⟩ : Ac))
theorem gl_len (T : Int) (l : List Nat) : (gl T l).length = l.length := by unfold gl; simp
theorem gl_snoc (T : Int) (l : List Nat) (p : Nat) : gl T (l ++ [p]) = gl T l ++ [⟨T, 1, 0, (p : Int), 0, 0, 0⟩] := by unfold gl; simp
theorem gl_ag (T : Int) (l : List Nat) {j : Nat} (hj : j < l.length) : ag (gl T l) j = ⟨T, 1, 0, ((l.getD j 0 : Nat) : Int), 0, 0, 0⟩ := by
  unfold ag gl
  rw [List.getD_eq_getElem?_getD, List.getElem?_map, List.getElem?_eq_getElem hj, List.getD_eq_getElem?_getD, List.getElem?_eq_getElem hj]
  rfl
theorem gl_ok {T : Int} {l : List Nat} (h0 : 0 ≤ T) (h1 : T ≤ 1000) (hl : l.length ≤ 100) (hp : ∀ j, j < l.length → l.getD j 0 < 24) : Eok ⟨1, gl T l⟩ := by
  refine ⟨by show (1 : Int) ≤ 1; omega, by show (1 : Int) ≤ 16; omega, by show (gl T l).length ≤ 120; rw [gl_len]; omega, fun j hj => ?_, fun j hj => ?_⟩
  · replace hj : j < (gl T l).length := hj
    rw [gl_len] at hj
    show evP 1 (ag (gl T l) j)
    rw [gl_ag T l hj]
    have := hp j hj
    exact ⟨h0, by show T ≤ _; omega, by show (0 : Int) ≤ 0; omega, by show (0 : Int) < 1; omega, .inl ⟨.inl rfl, by show (0 : Int) ≤ ((l.getD j 0 : Nat) : Int); omega, by show ((l.getD j 0 : Nat) : Int) < 24; omega, rfl, rfl, rfl⟩⟩
  · replace hj : j + 1 < (gl T l).length := hj
    rw [gl_len] at hj
    show (ag (gl T l) j).t ≤ (ag (gl T l) (j + 1)).t
    rw [gl_ag T l (by omega), gl_ag T l hj]
    exact Int.le_refl _
theorem gl_lk (T : Int) (l : List Nat) : lkA (gl T l) 0 T = none := by
  unfold lkA
  have : ∀ k, k ≤ l.length → lk (gl T l) 0 T k = none := fun k => by
    induction k with
    | zero => intro _; rfl
    | succ k ih =>
      intro hk
      rw [lk, gl_ag T l (by omega), if_neg (by simp), if_neg (by simp), if_neg (by simp)]
      exact ih (by omega)
  exact this _ (by rw [gl_len]; exact Nat.le_refl _)
theorem gl_gr1 (T : Int) (l : List Nat) (p q : Nat) : (grA (gl T (l ++ [p])) 0 T (q : Int)).isSome = ((p == q) || (grA (gl T l) 0 T (q : Int)).isSome) := by
  rw [gl_snoc, grA_snoc, if_neg (by simp), if_pos (by rfl)]
  by_cases h : p = q
  · subst h; simp
  · rw [if_neg (by show ¬ (p : Int) = (q : Int); omega), beq_eq_false_iff_ne.2 h, Bool.false_or]
theorem gl_gri (T : Int) (m : Nat → Bool) (q : Nat) : ∀ n, (grA (gl T (idx m n)) 0 T (q : Int)).isSome = (decide (q < n) && m q)
  | 0 => by simp [idx, gl, grA, gr]
  | n + 1 => by
    have ih := gl_gri T m q n
    cases hm : m n with
    | true =>
      rw [idx_tt hm, gl_gr1, ih]
      by_cases h : n = q
      · subst h; simp [hm]
      · rw [beq_eq_false_iff_ne.2 h, Bool.false_or]
        congr 1
        exact decide_eq_decide.2 (by omega)
    | false =>
      rw [idx_ff hm, ih]
      by_cases h : n = q
      · subst h; simp [hm]
      · congr 1
        exact decide_eq_decide.2 (by omega)
theorem rB_lt {d : Dy} {p : Nat} (h : rB d p = true) : p < d.k.length := by
  unfold rB at h
  rw [Bool.and_eq_true, decide_eq_true_iff] at h
  exact h.1
theorem rB_ng {d : Dy} {p : Nat} (h : rB d p = true) : gB d p = false := by
  unfold rB at h
  unfold gB
  rw [Bool.and_eq_true] at h
  have h2 := h.2
  cases hk : decide (p < d.k.length) with
  | false => rfl
  | true =>
    rw [Bool.true_and]
    cases he : (kd d p == 2) with
    | false => rfl
    | true => exact absurd (beq_iff_eq.1 he) (by simpa using h2)
theorem gd_gl {T : Int} {l : List Nat} (hok : Eok ⟨1, gl T l⟩) (q : Nat) : gdB ⟨1, gl T l⟩ 0 T q = (grA (gl T l) 0 T (q : Int)).isSome := gdB_yes ⟨hok, by show (0 : Int) ≤ 0; omega, by show (0 : Int) < 1; omega⟩ T q
theorem may_one {d : Dy} {T g : Nat} (hok : Ok d) (hT : T ≤ 1000) (hg : gB d g = true) (hgl : g < d.k.length) (p : Nat) : mayB d ⟨1, gl (T : Int) [g]⟩ p 0 T = memB d T g p := by
  have hn := hok.n
  have he : Eok ⟨1, gl (T : Int) [g]⟩ := gl_ok (by omega) (by omega) (by simp) (fun j hj => by
    have : j = 0 := by simp at hj; exact hj
    subst this
    show g < 24
    omega)
  unfold mayB memB
  have hl : lkA (gl (T : Int) [g]) ((0 : Nat) : Int) (T : Int) = none := gl_lk _ _
  show (rB d p && ((lkA (gl (T : Int) [g]) ((0 : Nat) : Int) (T : Int)).isSome || _)) = _
  rw [hl]
  cases hr : rB d p with
  | false => rfl
  | true =>
    have hp := rB_lt hr
    rw [Bool.true_and, Bool.true_and, Option.isSome_none, Bool.false_or, Bool.eq_iff_iff, any_iff]
    have hgq : ∀ q, gdB ⟨1, gl (T : Int) [g]⟩ ((0 : Nat) : Int) (T : Int) q = (g == q) := fun q => by
      have h1 := gl_gr1 (T : Int) [] g q
      rw [show ((0 : Nat) : Int) = 0 from rfl, gd_gl he]
      rw [List.nil_append] at h1
      rw [h1]
      simp [gl, grA, gr]
    have hpg : p ≠ g := fun e => by rw [e] at hr; rw [rB_ng hr] at hg; cases hg
    have hiu := in_up (t := T) hok hp hgl
    rw [beq_eq_false_iff_ne.2 hpg, Bool.false_or, hg, Bool.true_and] at hiu
    constructor
    · rintro ⟨q, h1, h2⟩
      unfold keyB at h2
      rw [hgq, Bool.and_eq_true] at h2
      have := beq_iff_eq.1 h2.2
      subst this
      rw [hiu]
      exact h2.1
    · intro h
      refine ⟨g, hgl, ?_⟩
      unfold keyB
      rw [hgq, ← hiu, h]
      simp
theorem may_each {d : Dy} {T g : Nat} (hok : Ok d) (hT : T ≤ 1000) (p : Nat) : mayB d ⟨1, gl (T : Int) (idx (memB d T g) d.k.length)⟩ p 0 T = memB d T g p := by
  have hn := hok.n
  have he : Eok ⟨1, gl (T : Int) (idx (memB d T g) d.k.length)⟩ := gl_ok (by omega) (by omega) (by rw [idx_len]; have := cnt_le (memB d T g) d.k.length; omega) (fun j hj => by
    have := (at_idx (by rw [idx_len] at hj; exact hj : j < cnt (memB d T g) d.k.length)).1
    omega)
  unfold mayB
  have hl : lkA (gl (T : Int) (idx (memB d T g) d.k.length)) ((0 : Nat) : Int) (T : Int) = none := gl_lk _ _
  show (rB d p && ((lkA (gl (T : Int) (idx (memB d T g) d.k.length)) ((0 : Nat) : Int) (T : Int)).isSome || _)) = _
  rw [hl]
  cases hr : rB d p with
  | false => unfold memB; rw [hr]; rfl
  | true =>
    have hp := rB_lt hr
    rw [Bool.true_and, Option.isSome_none, Bool.false_or, Bool.eq_iff_iff, any_iff]
    have hgq : ∀ q, q < d.k.length → gdB ⟨1, gl (T : Int) (idx (memB d T g) d.k.length)⟩ ((0 : Nat) : Int) (T : Int) q = memB d T g q := fun q hq => by
      rw [show ((0 : Nat) : Int) = 0 from rfl, gd_gl he, gl_gri, decide_eq_true hq, Bool.true_and]
    constructor
    · rintro ⟨q, h1, h2⟩
      unfold keyB at h2
      rw [hgq q h1, Bool.and_eq_true] at h2
      have hmq := h2.2
      have hrq : rB d q = true := by unfold memB at hmq; rw [Bool.and_eq_true] at hmq; exact hmq.1
      have hiu := in_up (t := T) hok hp h1
      rw [rB_ng hrq, Bool.false_and, Bool.or_false, h2.1] at hiu
      have := beq_iff_eq.1 hiu
      subst this
      exact hmq
    · intro h
      refine ⟨p, hp, ?_⟩
      unfold keyB
      rw [hgq p hp, h, Bool.and_true, upB_iff]
      exact ⟨hp, .here⟩

end Go.Proofs.Ytgknfkmojhganaa.Di
