import Derived.Test.YtahggnlmabdbbaaDoorRtE
namespace Go.Proofs.YtahggnlmabdbbaaDoor.Di
open Go.RowKit Go.Maps
open Go.Proofs.YtahggnlmabdbbaaDoor.Tp
set_option linter.unusedVariables false
set_option linter.unusedSimpArgs false

def lenOf (v : Value) : Nat := match v with | .slice _ n _ => n | _ => 0
/-- What holds of the world while chains are gathered. -/
structure ChW (x : Rt) (v : Vr) (w : World) (wr : World) (b : Nat) (K : List Int) (C : List (List T4)) (i g off cap : Nat) (D : DataW Value) (hs : Nat → Value) : Prop where
  q : Qu wr (w.heap.size + 1) 3 g off (K.length - i) cap (zv (K.drop i))
  m : wr.ownsMap Tryd.prog 3 hdR b K.length D
  mp : Mp D K hs
  r : RowsC wr (w.heap.size + 1) K.length C hs
  b : Below w.heap.size w wr
  box : wr.heap[w.heap.size]? = some (.cells (gr x v) 27 (0, 0))
theorem ChW.below {x : Rt} {v : Vr} {w wr w' : World} {b : Nat} {K : List Int} {C : List (List T4)} {i g off cap : Nat} {D : DataW Value} {hs : Nat → Value} (h : ChW x v w wr b K C i g off cap D hs) (hb : Below wr.heap.size wr w') : ChW x v w w' b K C i g off cap D hs :=
  ⟨h.q.keep (row := none) (gb_of_below hb) (by simp), h.m.kept (row := none) (gb_of_below hb) (by simp), h.mp, h.r.below hb, h.b.trans (hb.mono h.b.size), (hb.block _ (row_lt h.box)).trans h.box⟩
/-- The map has been turned: an entry more. -/
theorem ChW.put {x : Rt} {v : Vr} {w wr w' : World} {b : Nat} {K : List Int} {C : List (List T4)} {i g off cap : Nat} {D : DataW Value} {hs : Nat → Value} (h : ChW x v w wr b K C i g off cap D hs) (hC : C.length = K.length) {y : Int} (hy : y ∉ K) {l : List T4} {A : Option Addr} {cc : Nat}
    (hr : wr.ownsRow (w.heap.size + 1) 99 4 (.slice A l.length cc) l.length (v4 l)) (hb : w.heap.size + 1 ≤ b)
    (ho : w'.ownsMap Tryd.prog 3 hdR b (K.length + 1) (D.put (.int .i64 y) (.held (.slice A l.length cc)))) (hg : wr.grownBy w' (some b)) :
    Qu w' (w.heap.size + 1) 3 g off (K.length - i) cap (zv (K.drop i)) ∧ Mp (D.put (.int .i64 y) (.held (.slice A l.length cc))) (K ++ [y]) (fun j => if j = K.length then .slice A l.length cc else hs j) ∧ RowsC w' (w.heap.size + 1) (K.length + 1) (C ++ [l]) (fun j => if j = K.length then .slice A l.length cc else hs j) ∧ Below w.heap.size w w' ∧ w'.heap[w.heap.size]? = some (.cells (gr x v) 27 (0, 0)) := by
  obtain ⟨o, ho1, ho2⟩ := map_obj h.m
  refine ⟨h.q.keep hg (fun e => ?_), h.mp.add (h.m.tidy law3) hy _, ?_, h.b.grown hg h.b.size (fun k e => by cases e; omega), (hg.block _ (row_lt h.box) (fun e => by injection e; omega)).trans h.box⟩
  · obtain ⟨cur, q1, -, -⟩ := h.q.row
    injection e with e1
    subst e1
    rw [q1] at ho1
    injection ho1 with ho1
    exact ho2 _ _ _ ho1.symm
  · exact (h.r.ty hg ho1 (fun cs fr => ho2 _ cs fr)).add hC (own_ty hr hg ho1 (fun cs fr => ho2 _ cs fr))

/-- The queue has grown. -/
theorem ChW.push {x : Rt} {v : Vr} {w w7 w6 : World} {b : Nat} {K : List Int} {C : List (List T4)} {i g off cap g6 off6 cap6 : Nat} {D : DataW Value} {hs : Nat → Value} {y : Int} {o : Obj}
    (hq : Qu w7 (w.heap.size + 1) 3 g off (K.length - i) cap (zv (K.drop i))) (hm : w7.ownsMap Tryd.prog 3 hdR b (K.length + 1) D) (hmp : Mp D (K ++ [y]) hs) (hr : RowsC w7 (w.heap.size + 1) (K.length + 1) C hs) (hb : Below w.heap.size w w7) (hbox : w7.heap[w.heap.size]? = some (.cells (gr x v) 27 (0, 0)))
    (hq6 : Qu w6 (w.heap.size + 1) 3 g6 off6 (K.length - i + 1) cap6 (zv (K.drop i) ++ [.int .i64 y])) (hg6 : (w7.alloc o).grownBy w6 (some g)) (hi : i ≤ K.length) :
    ChW x v w w6 b (K ++ [y]) C i g6 off6 cap6 D hs := by
  have hba := box_below w7 o
  obtain ⟨cur, q1, q2, q3⟩ := hq.row
  have q1' := (hba.block _ (row_lt q1)).trans q1
  have hgw := hq.base
  refine ⟨?_, ?_, hmp, ?_, ?_, ?_⟩
  · rw [zv_drop_snoc hi, show (K ++ [y]).length - i = K.length - i + 1 by simp; omega]
    exact hq6
  · have hm2 := (hm.alloc o).kept hg6 (fun e => by
      injection e with e
      obtain ⟨o2, h1, h2⟩ := map_obj hm
      subst e
      rw [q1] at h1
      injection h1 with h1
      exact h2 _ _ _ h1.symm)
    rw [show (K ++ [y]).length = K.length + 1 by simp]
    exact hm2
  · rw [show (K ++ [y]).length = K.length + 1 by simp]
    exact (hr.below hba).ty hg6 q1' (fun cs fr e => by injection e with e1 e2; exact absurd e2 (by decide))
  · exact (hb.trans (hba.mono hb.size)).grown hg6 (hb.trans (hba.mono hb.size)).size (fun k e => by cases e; omega)
  · exact (hg6.block _ (by have := row_lt hbox; simp; omega) (fun e => by injection e; omega)).trans ((hba.block _ (row_lt hbox)).trans hbox)
theorem step_push {w7 w6 : World} {B g off n cap m : Nat} {xs ys : List Value} {v : Value} {o : Obj} (hq : Qu w7 B 3 g off n cap xs) (h : w7.ownsRow B 101 5 v m ys) (hg6 : (w7.alloc o).grownBy w6 (some g)) : w6.ownsRow B 101 5 v m ys := by
  obtain ⟨cur, q1, q2, q3⟩ := hq.row
  exact own_ty (own_below h (box_below w7 o)) hg6 (((box_below w7 o).block _ (row_lt q1)).trans q1) (fun cs fr e => by injection e with e1 e2; exact absurd e2 (by decide))

set_option maxRecDepth 100000 in
set_option maxHeartbeats 8000000 in
theorem chains_any (x : Rt) (v : Vr) (c : Int) (w : World) (h : RL w 0 x v) (hx : Rok x) (hc : 0 ≤ c ∧ c < x.c) :
    Calls Tryd.prog 52 #[.agg (gr x v), .int .i64 c] w (ChPost x c w) := by
  have hx24 := hx.c1
  have HX := Lib.hid hx
  have HD := Lib.hid h
  have HST := Lib.hid (Bf.start x hc)
  have hwk : ∀ y : Int, 0 ≤ y → y < 24 → keyOf Tryd.prog 3 (.int .i64 y) = some (.int .i64 y) := fun y h0 h1 => keyOf_int_mk Tryd.underlying3 (WalkArith.wf_i64 (by omega))
  have HR0 := Lib.hid ((heap_alloc_old (w.alloc (.cells (gr x v) 27)) (.map #[] 0) (r := w.heap.size) (by simp)).trans (heap_alloc_new w (.cells (gr x v) 27)))
  have hb0 := (box_below w (.cells (gr x v) 27)).trans ((box_below (w.alloc (.cells (gr x v) 27)) (.map #[] 0)).mono (by simp))
  have hm0 := World.ownsMap_made (w.alloc (.cells (gr x v) 27)) Tryd.prog 3 hdR
  have hz : (w.alloc (.cells (gr x v) 27)).heap.size = w.heap.size + 1 := by simp
  rw [hz] at hm0
  obtain ⟨w2, hrun2, hm2, hg2⟩ := hm0.update law3 Tryd.underlying91 (by unfold maxLen; omega) (hwk c hc.1 (by omega)) (show hdR (.slice none 0 0) = _ from rfl)
  have HB2 := Lib.hid (hb0.grown hg2 hb0.size (fun k e => by cases e; omega))
  have HR2 := Lib.hid ((hg2.block _ (row_lt HR0.out) (fun e => by injection e; omega)).trans HR0.out)
  have hs2 : w.heap.size + 2 ≤ w2.heap.size := by have := hg2.size; simpa using this
  have hmm := @run_makeMap Tryd.prog
  have HM2 := Lib.hid hm2
  have nq := heap_alloc_new w2 (.cells #[.int .i64 c] 3)
  have hw3 := box_below w2 (.cells #[.int .i64 c] 3)
  have hqu : Qu (w2.alloc (.cells #[.int .i64 c] 3)) (w.heap.size + 1) 3 w2.heap.size 0 1 1 (zv ([c].drop 0)) :=
    ⟨by omega, Nat.le_refl _, rfl, _, nq, Nat.le_refl _, fun j u hj => by
      have hjl := (List.getElem?_eq_some_iff.1 hj).1
      simp [zv] at hjl
      subst hjl
      rw [Nat.zero_add]
      exact hj⟩
  have HCW := Lib.hid (show ChW x v w (w2.alloc (.cells #[.int .i64 c] 3)) (w.heap.size + 1) [c] [[]] 0 w2.heap.size 0 1 _ (fun _ => Value.slice none 0 0) from ⟨hqu, hm2.kept (row := none) (gb_of_below hw3) (by simp), Mp.start c, fun j hj => by
    have : j = 0 := by simp at hj; omega
    subst this
    exact ⟨none, 0, rfl, own_nil _ _ _ _⟩, HB2.out.trans (hw3.mono HB2.out.size), (hw3.block _ (row_lt HR2.out)).trans HR2.out⟩)
  obtain ⟨i0, hi1, hz0, hz1, hz2⟩ := info_parts zinfo3
  have HI := Lib.hid hi1
  have HI0 := Lib.hid hz0
  have HI1 := Lib.hid hz1
  have HI2 := Lib.hid hz2
  clear hi1 hz0 hz1 hz2 h hx hm0 hm2 hg2 hb0 hqu nq hw3 hz
  unfold ChPost
  go_enter Tryd.func52, Tryd.ntmps52
  go_wp2_with fail
  generalize w2.alloc (.cells #[.int .i64 c] 3) = W3 at *
  go_loopw [6] (fun qv wr => ∃ (K : List Int) (C : List (List T4)) (i g off cap : Nat) (D : DataW Value) (hs : Nat → Value), qv = .slice (some ⟨g, off, none⟩) (K.length - i : Nat) cap ∧ Bf x c K C i 0 ∧ ChW x v w wr (w.heap.size + 1) K C i g off cap D hs) (fun qv wr => lenOf qv + (24 - mcount wr (w.heap.size + 1)))
  case atStart => exact ⟨[c], [[]], 0, _, 0, 1, _, _, rfl, HST.out, HCW.out⟩
  case round =>
    clear HCW HST HB2 HR2 HM2 HR0 hrun2 hmm hs2
    obtain ⟨K, C, i, g, off, cap, D, hs, rfl, hbf, hcw⟩ := hrel
    have hk24 := hbf.k24 HX.out
    by_cases hi : i < K.length
    · obtain ⟨m, hm⟩ : ∃ m, K.length - i = m := ⟨_, rfl⟩
      obtain ⟨u, hu⟩ : ∃ u, e0 K i = u := ⟨_, rfl⟩
      have hur : 0 ≤ u ∧ u < x.c := by rw [← hu]; exact hbf.rng _ (e0_mem hi)
      have qc := hcw.q.cell (zv_drop_at hi)
      rw [hu, Nat.add_zero] at qc
      have HCW := Lib.hid hcw
      have HBF := Lib.hid hbf
      have HSTP := Lib.hid (fun w' (hb : Below w.heap.size w w') => steps_any x v u w' (HD.out.below hb) HX.out)
      obtain ⟨c0, c1, c2, c3, c4⟩ := grCells hcw.box
      have hglt := hcw.q.lt
      have hblt := row_lt hcw.box
      have HF := Lib.hid (show (#[.int .i64 x.c, .int .i64 x.k, .slice v.A1 x.g.length v.c1, .slice v.A2 x.s.length v.c2, .slice v.A3 x.m.length v.c3] : Array Value) = gr x v from rfl)
      have mp : 0 < m := by omega
      rw [hm]
      clear hcw hbf
      unfold StPost at HSTP
      have HK := Lib.hid (show ∀ w', Below wr.heap.size wr w' → (w'.cell? ⟨w.heap.size, 0, none⟩ = some (.int .i64 x.c) ∧ w'.cell? ⟨w.heap.size, 1, none⟩ = some (.int .i64 x.k) ∧ w'.cell? ⟨w.heap.size, 2, none⟩ = some (.slice v.A1 x.g.length v.c1) ∧ w'.cell? ⟨w.heap.size, 3, none⟩ = some (.slice v.A2 x.s.length v.c2) ∧ w'.cell? ⟨w.heap.size, 4, none⟩ = some (.slice v.A3 x.m.length v.c3) ∧ w'.cell? ⟨g, off, none⟩ = some (.int .i64 u)) from fun w' hb =>
        ⟨(hb.cell (p := ⟨w.heap.size, 0, none⟩) hblt).trans c0, (hb.cell (p := ⟨w.heap.size, 1, none⟩) hblt).trans c1, (hb.cell (p := ⟨w.heap.size, 2, none⟩) hblt).trans c2, (hb.cell (p := ⟨w.heap.size, 3, none⟩) hblt).trans c3, (hb.cell (p := ⟨w.heap.size, 4, none⟩) hblt).trans c4, (hb.cell (p := ⟨g, off, none⟩) hglt).trans qc⟩)
      have hbr : Below wr.heap.size wr wr := Below.refl _ _
      have hbd : Below wr.heap.size wr wr.drew := hbr.drew
      have HSTD := Lib.hid (HSTP.out wr.drew HCW.out.b.drew)
      go_wp2_with fail
      go_region_held3 (fun w' => w'.cell? ⟨w.heap.size, 0, none⟩ = some (.int .i64 x.c) ∧ w'.cell? ⟨w.heap.size, 1, none⟩ = some (.int .i64 x.k) ∧ w'.cell? ⟨w.heap.size, 2, none⟩ = some (.slice v.A1 x.g.length v.c1) ∧ w'.cell? ⟨w.heap.size, 3, none⟩ = some (.slice v.A2 x.s.length v.c2) ∧ w'.cell? ⟨w.heap.size, 4, none⟩ = some (.slice v.A3 x.m.length v.c3) ∧ w'.cell? ⟨g, off, none⟩ = some (.int .i64 u))
        (first | (with_reducible assumption) | (with_reducible exact HK.out _ hbr) | (with_reducible exact HK.out _ hbd) | (with_reducible exact HK.out _ hb5))
        (first
          | (go_at_call 58; rw [HF.out]; (with_reducible refine HSTD.out.mono ?_); rintro e w5 ⟨SA, scc, rfl, hown, hb5'⟩; have hb5 : Below wr.heap.size wr w5 := hbd.trans hb5'; have SO := Lib.hid hown; clear hown hb5'))
      have HMC := Lib.hid (mcount_eq HCW.out.m)
      rw [HCW.out.mp.sz] at HMC
      have hsl : (stp x u).length ≤ 10100 := Nat.le_trans (stG_len x u HX.out.lm HX.out.ls _) (by have := HX.out.lg; omega)
      have HCW5 := Lib.hid (HCW.out.below hb5)
      have SO5 := Lib.hid (own_base SO.out (show w.heap.size + 1 ≤ wr.heap.size by omega))
      clear SO HSTP HSTD HK c0 c1 c2 c3 c4 qc hbr hbd HF
      go_wp2_with fail
      obtain ⟨S, hS⟩ : ∃ S, stp x u = S := ⟨_, rfl⟩
      have HS := Lib.hid hS
      rw [hS] at hsl SO5
      rw [hS]
      clear hS
      go_loopw [6, 27] (fun qv ii wz => ∃ (n : Nat) (K : List Int) (C : List (List T4)) (g off cap : Nat) (D : DataW Value) (hs : Nat → Value), n ≤ S.length ∧ ii = .int .i64 (n : Int) ∧ qv = .slice (some ⟨g, off, none⟩) (K.length - i : Nat) cap ∧ i < K.length ∧ e0 K i = u ∧ Bf x c K C i n ∧ ChW x v w wz (w.heap.size + 1) K C i g off cap D hs ∧ wz.ownsRow (w.heap.size + 1) 101 5 (.slice SA S.length scc) S.length (v5 S)) (fun qv ii wz => S.length - (intOf ii).toNat)
      case atStart => exact ⟨0, K, C, g, off, cap, D, hs, by omega, rfl, by rw [hm], hi, hu, HBF.out, HCW5.out, SO5.out⟩
      case round =>
        have HMO := Lib.hid hm
        clear HCW HCW5 SO5 HBF hm hu mp
        obtain ⟨n, K', C', g', off', cap', D', hs', hn, rfl, rfl, hi', hu', hbf, hcw, hso⟩ := hrel
        rename World => wz
        have hk24' := hbf.k24 HX.out
        by_cases hlt : n < S.length
        · obtain ⟨b5, o5, hA5, -, hbk5, y0, y1, y2, y3, y4⟩ := (row_of_own hso).t5 hlt
          have HBFN := Lib.hid hbf
          have hyt : 0 ≤ (e5 S n).t ∧ (e5 S n).t < x.c := IsSt.rng HX.out ((stp_mem x u _).1 (by rw [HS.out]; exact e5_mem hlt))
          have HE := Lib.hid (show e5 (stp x (e0 K' i)) n = e5 S n by rw [hu', HS.out])
          have HNL := Lib.hid (show n < (stp x (e0 K' i)).length by rw [hu', HS.out]; exact hlt)
          generalize e5 S n = y at *
          obtain ⟨⟨la, lb, lc, ld⟩, yt⟩ := y
          simp only at y0 y1 y2 y3 y4 hyt
          have j0 : (0 : Int) ≤ (n : Int) := by omega
          have j1 : (n : Int) < (S.length : Int) := by omega
          rw [hA5]
          have hbx := box_below wz (.cells #[.int .i64 la, .int .i64 lb, .int .i64 lc, .int .i64 ld, .int .i64 yt] 101)
          have XN := heap_alloc_new wz (.cells #[.int .i64 la, .int .i64 lb, .int .i64 lc, .int .i64 ld, .int .i64 yt] 101)
          have HCX := Lib.hid (hcw.below hbx)
          have HSX := Lib.hid (own_below hso hbx)
          have hXl := row_lt XN
          have hGw : w.heap.size + 1 < wz.heap.size := by
            obtain ⟨es, clock, hb, _⟩ := hcw.m
            exact row_lt hb
          obtain ⟨n0, n1, n2, n3, n4⟩ := c5Cells (x := ⟨⟨la, lb, lc, ld⟩, yt⟩) XN
          simp only at n0 n1 n2 n3 n4
          have HXN := Lib.hid XN
          have HKEY := Lib.hid (hwk yt hyt.1 (by omega))
          clear hbx hcw hso hbf XN
          by_cases hm : yt ∈ K'
          · have HHAS := Lib.hid (show Maps.has D' (.int .i64 yt) = true by rw [HCX.out.mp.has]; exact decide_eq_true hm)
            go_wp2_with (at_lookup; refine wpList_lookup_own_ok _ rfl _ _ 91 rfl 3 92 law3 Tryd.underlying91 hdR (Tryd.zeroValue92 _) (.held (.slice none 0 0)) [] rfl (w.heap.size + 1) K'.length D' rfl HCX.out.m (.int .i64 yt) (.int .i64 yt) rfl HKEY.out ?_; intro vv ps hv; clear hv; rw [HHAS.out])
            refine ⟨⟨n + 1, K', C', g', off', cap', D', hs', by omega, by go_num, rfl, hi', hu', HBFN.out.skip (by rw [HE.out]; exact hm), HCX.out, by rw [← hA5]; exact HSX.out⟩, by simp [intOf]; omega⟩
          · have HHAS := Lib.hid (show Maps.has D' (.int .i64 yt) = false by rw [HCX.out.mp.has]; exact decide_eq_false hm)
            have qc := HCX.out.q.cell (zv_drop_at hi')
            rw [hu', Nat.add_zero] at qc
            have hglt := HCX.out.q.lt
            obtain ⟨gx, hgx⟩ : ∃ gx, wz.heap.size = gx := ⟨_, rfl⟩
            have hxl : gx < (wz.alloc (.cells #[.int .i64 la, .int .i64 lb, .int .i64 lc, .int .i64 ld, .int .i64 yt] 101)).heap.size := by rw [← hgx]; exact hXl
            have HGX := Lib.hid hgx
            rw [hgx] at n0 n1 n2 n3 n4
            have hWXs : (wz.alloc (.cells #[.int .i64 la, .int .i64 lb, .int .i64 lc, .int .i64 ld, .int .i64 yt] 101)).heap.size = gx + 1 := by simp [hgx]
            have hGx : w.heap.size + 1 < gx := by omega
            have HWXS := Lib.hid hWXs
            go_wp2_with (at_lookup; refine wpList_lookup_own_ok _ rfl _ _ 91 rfl 3 92 law3 Tryd.underlying91 hdR (Tryd.zeroValue92 _) (.held (.slice none 0 0)) [] rfl (w.heap.size + 1) K'.length D' rfl HCX.out.m (.int .i64 yt) (.int .i64 yt) rfl HKEY.out ?_; intro vv ps hv; clear hv; rw [HHAS.out])
            try rw [HGX.out]
            generalize wz.alloc (.cells #[.int .i64 la, .int .i64 lb, .int .i64 lc, .int .i64 ld, .int .i64 yt] 101) = wx at *
            have HK := Lib.hid (show ∀ w', Below wx.heap.size wx w' → (w'.cell? ⟨gx, 0, none⟩ = some (.int .i64 la) ∧ w'.cell? ⟨gx, 1, none⟩ = some (.int .i64 lb) ∧ w'.cell? ⟨gx, 2, none⟩ = some (.int .i64 lc) ∧ w'.cell? ⟨gx, 3, none⟩ = some (.int .i64 ld) ∧ w'.cell? ⟨gx, 4, none⟩ = some (.int .i64 yt) ∧ w'.cell? ⟨g', off', none⟩ = some (.int .i64 u)) from fun w' hb =>
              ⟨(hb.cell (p := ⟨gx, 0, none⟩) hxl).trans n0, (hb.cell (p := ⟨gx, 1, none⟩) hxl).trans n1, (hb.cell (p := ⟨gx, 2, none⟩) hxl).trans n2, (hb.cell (p := ⟨gx, 3, none⟩) hxl).trans n3, (hb.cell (p := ⟨gx, 4, none⟩) hxl).trans n4, (hb.cell (p := ⟨g', off', none⟩) hglt).trans qc⟩)
            have hgb : g' ≠ w.heap.size + 1 := fun e => by
              obtain ⟨o, h1, h2⟩ := map_obj HCX.out.m
              obtain ⟨cur, q1, -, -⟩ := HCX.out.q.row
              rw [e, h1] at q1
              injection q1 with q1
              exact h2 _ _ _ q1
            have HKM := Lib.hid (show ∀ w5 w7, Below wx.heap.size wx w5 → w5.grownBy w7 (some (w.heap.size + 1)) → (w7.cell? ⟨gx, 0, none⟩ = some (.int .i64 la) ∧ w7.cell? ⟨gx, 1, none⟩ = some (.int .i64 lb) ∧ w7.cell? ⟨gx, 2, none⟩ = some (.int .i64 lc) ∧ w7.cell? ⟨gx, 3, none⟩ = some (.int .i64 ld) ∧ w7.cell? ⟨gx, 4, none⟩ = some (.int .i64 yt) ∧ w7.cell? ⟨g', off', none⟩ = some (.int .i64 u)) from fun w5 w7 hb hg => by
              obtain ⟨k0, k1, k2, k3, k4, k5⟩ := HK.out w5 hb
              have l1 := Nat.lt_of_lt_of_le hxl hb.size
              have l2 := Nat.lt_of_lt_of_le hglt hb.size
              have b1 := hg.block gx l1 (fun e => by injection e; omega)
              have b2 := hg.block g' l2 (fun e => by injection e; omega)
              exact ⟨(World.cell?_of_block b1).trans k0, (World.cell?_of_block b1).trans k1, (World.cell?_of_block b1).trans k2, (World.cell?_of_block b1).trans k3, (World.cell?_of_block b1).trans k4, (World.cell?_of_block b2).trans k5⟩)
            obtain ⟨Ai, ci, hsi, hri⟩ := HCX.out.r i hi'
            have hati := HCX.out.mp.at_ i hi'
            rw [hu', hsi] at hati
            have hcl := HBFN.out.cl i hi'
            obtain ⟨L, hL⟩ : ∃ L, C'.getD i [] = L := ⟨_, rfl⟩
            rw [hL] at hsi hri hcl hati
            rw [hsi] at hri
            have HL := Lib.hid hL
            have HLK := Lib.hid (show ∀ w' : World, w'.ownsMap Tryd.prog 3 hdR (w.heap.size + 1) K'.length D' → (Instr.lookup 91 (.map (some (w.heap.size + 1))) (.int .i64 u) false).run Tryd.prog w' = .ok (.slice Ai L.length ci) w' from fun w' hm' => by
              obtain ⟨vq, pq, hrun, hv⟩ := hm'.lookup law3 Tryd.underlying91 (Tryd.zeroValue92 w') (zd := .held (.slice none 0 0)) (zp := []) rfl (hwk u hur.1 (by omega))
              rw [hati] at hv
              unfold hdR at hv
              injection hv with hv
              injection hv with hv
              injection hv with hv
              rw [← hv]
              exact hrun)
            have hbd : Below wx.heap.size wx wx.drew := (Below.refl _ _).drew
            have hbr : Below wx.heap.size wx wx := Below.refl _ _
            have hba : ∀ o, Below wx.heap.size wx (wx.drew.alloc o) := fun o => hbd.trans (box_below wx.drew o)
            have hbc : ∀ o, Below wx.heap.size wx (wx.alloc o).drew := fun o => (box_below wx o).drew
            have e1 := HLK.out wx.drew HCX.out.m.drew
            have e3 := fun o => HLK.out (wx.alloc o).drew (HCX.out.m.alloc o).drew
            have e2 := fun o => HLK.out (wx.drew.alloc o) (HCX.out.m.drew.alloc o)
            have HCL := Lib.hid (fun w' (hb : Below wx.heap.size wx w') => clone_any L Ai ci _ w' (own_below hri hb) (by omega))
            unfold ClnPost at HCL
            obtain ⟨l0, li1, lz0, lz1, lz2⟩ := info_parts zinfoL
            have HJ := Lib.hid li1
            have HJ0 := Lib.hid lz0
            have HJ1 := Lib.hid lz1
            have HJ2 := Lib.hid lz2
            have HUP := Lib.hid (fun (w5 : World) (hb5 : Below wx.heap.size wx w5) (A : Option Addr) (n cc : Nat) => (HCX.out.below hb5).m.update law3 Tryd.underlying91 (by unfold maxLen; omega) HKEY.out (show hdR (.slice A n cc) = _ from rfl))
            clear hsi hri hati hL li1 lz0 lz1 lz2 n0 n1 n2 n3 n4 qc
            have mp : 0 < K'.length - i := by omega
            obtain ⟨m, hm3⟩ : ∃ m, K'.length - i = m := ⟨_, rfl⟩
            rw [hm3] at mp
            rw [hm3]
            go_region_held3 (fun w' => w'.cell? ⟨gx, 0, none⟩ = some (.int .i64 la) ∧ w'.cell? ⟨gx, 1, none⟩ = some (.int .i64 lb) ∧ w'.cell? ⟨gx, 2, none⟩ = some (.int .i64 lc) ∧ w'.cell? ⟨gx, 3, none⟩ = some (.int .i64 ld) ∧ w'.cell? ⟨gx, 4, none⟩ = some (.int .i64 yt) ∧ w'.cell? ⟨g', off', none⟩ = some (.int .i64 u))
              (first | (with_reducible assumption) | (with_reducible exact HK.out _ hbr) | (with_reducible exact HK.out _ hbd) | (with_reducible exact HK.out _ B5.out) | (with_reducible exact HK.out _ P3.out) | (with_reducible exact HK.out _ (hba _)) | (with_reducible exact HK.out _ (hbc _)) | (with_reducible exact HK.out _ (hba3 _)) | fail)
              (first
                | (go_at_call 59; (with_reducible refine (HCL.out _ ?_).mono ?_); (first | exact hbd | exact hba _ | exact hbc _); rintro e w3 ⟨A3, c3, rfl, hown3, hb3⟩; have P3 := Lib.hid (show Below wx.heap.size wx w3 from (by first | exact hbd.trans hb3 | exact (hba _).trans (hb3.mono (hba _).size) | exact (hbc _).trans (hb3.mono (hbc _).size))); have O3 := Lib.hid (show w3.ownsRow wx.heap.size 99 4 (.slice A3 L.length c3) L.length (v4 L) from (by first | exact hown3 | exact own_base hown3 (hba _).size | exact own_base hown3 (hbc _).size)); have hba3 : ∀ o, Below wx.heap.size wx (w3.alloc o) := (fun o => P3.out.trans ((box_below w3 o).mono P3.out.size)); try (have K3 := Lib.hid ((hb3.block wx.heap.size (by first | simp | exact Nat.lt_succ_self _)).trans (heap_alloc_new wx _))))
                | (refine step_append_lies _ rfl (.tmp 48) (.tmp 51) 92 rfl wx.heap.size 99 l0 (.agg #[.int .i64 0, .int .i64 0, .int .i64 0, .int .i64 0]) 4 32 Tryd.underlying92 HJ.out HJ0.out HJ1.out HJ2.out rfl (by decide) (.slice A3 L.length c3) L.length (v4 L) (by simp [Act.eval, Act.put]) (show World.ownsRow (w3.alloc (.cells #[.int .i64 la, .int .i64 lb, .int .i64 lc, .int .i64 ld] 99)) _ _ _ _ _ _ from O3.out.alloc _) ⟨w3.heap.size, 0, none⟩ 1 1 [.int .i64 la, .int .i64 lb, .int .i64 lc, .int .i64 ld] (by simp [Act.eval, Act.put]) rfl (World.news_of_block (heap_alloc_new w3 _)) (by simp [Value.oneCell']) (by decide) (by unfold maxLen; omega) (by omega) (by have := P3.out.size; simp; omega) _ rfl ?_; intro g5 c5 w5 hown5 hgr _ _; have B5 := Lib.hid ((hba3 _).grown hgr (hba3 _).size (fun k e => (O3.out.lt k e).1)); have O5 := Lib.hid hown5; obtain ⟨w7, hrun7, hm7, hg7⟩ := HUP.out w5 B5.out (some ⟨g5, 0, none⟩) (L.length + 1) c5; have S7 := HKM.out w5 w7 B5.out hg7; have M7 := Lib.hid hm7; have G7 := Lib.hid hg7; clear hown5 hgr hm7 hg7)
                | (refine step_append_lies _ rfl (.tmp 48) (.tmp 51) 92 rfl wx.heap.size 99 l0 (.agg #[.int .i64 0, .int .i64 0, .int .i64 0, .int .i64 0]) 4 32 Tryd.underlying92 HJ.out HJ0.out HJ1.out HJ2.out rfl (by decide) (.slice A3 L.length c3) L.length (v4 L) (by simp [Act.eval, Act.put]) O3.out ⟨wx.heap.size, 0, none⟩ 1 1 [.int .i64 la, .int .i64 lb, .int .i64 lc, .int .i64 ld] (by simp [Act.eval, Act.put]) rfl (World.news_of_block K3.out) (by simp [Value.oneCell']) (by decide) (by unfold maxLen; omega) (by omega) P3.out.size _ rfl ?_; intro g5 c5 w5 hown5 hgr _ _; have B5 := Lib.hid (P3.out.grown hgr P3.out.size (fun k e => (O3.out.lt k e).1)); have O5 := Lib.hid hown5; obtain ⟨w7, hrun7, hm7, hg7⟩ := HUP.out w5 B5.out (some ⟨g5, 0, none⟩) (L.length + 1) c5; have S7 := HKM.out w5 w7 B5.out hg7; have M7 := Lib.hid hm7; have G7 := Lib.hid hg7; clear hown5 hgr hm7 hg7))
            all_goals
              have hLL : (L ++ [⟨la, lb, lc, ld⟩] : List T4).length = L.length + 1 := by simp
              have hr5 : w5.ownsRow (w.heap.size + 1) 99 4 (.slice (some ⟨g5, 0, none⟩) (L ++ [⟨la, lb, lc, ld⟩] : List T4).length c5) (L ++ [⟨la, lb, lc, ld⟩] : List T4).length (v4 (L ++ [⟨la, lb, lc, ld⟩])) := by
                rw [hLL, v4_snoc]
                exact own_base O5.out (by rw [HWXS.out]; omega)
              have hput := (HCX.out.below B5.out).put HBFN.out.len hm hr5 (Nat.le_refl _) (by rw [hLL]; exact M7.out) G7.out
              have hbfa := HBFN.out.add HX.out hi' HNL.out (by rw [HE.out]; exact hm)
              rw [HE.out, HL.out] at hbfa
              have HBA := Lib.hid hbfa
              obtain ⟨hq7, hmp7, hr7, hb7, hbox7⟩ := hput
              obtain ⟨o7, ho7, ho7'⟩ := map_obj (HCX.out.below B5.out).m
              have HS7 := Lib.hid (own_ty (own_below HSX.out B5.out) G7.out ho7 (fun cs fr => ho7' _ cs fr))
              rw [hm3] at hq7
              have hba7 := box_below w7 (.cells #[.int .i64 yt] 3)
              have HQ7 := Lib.hid hq7
              have HQA := Lib.hid (hq7.keep (row := none) (gb_of_below hba7) (by simp))
              have HNW := Lib.hid (World.news_of_block (heap_alloc_new w7 (.cells #[.int .i64 yt] 3)))
              have HM7 := Lib.hid hmp7
              have HR7 := Lib.hid hr7
              have HB7 := Lib.hid hb7
              have HX7 := Lib.hid hbox7
              have hl7 := row_lt hbox7
              have hm24 : m ≤ 24 := by omega
              clear hr5 hbfa hq7 hmp7 hr7 hb7 hbox7 ho7 ho7' hba7 HUP HCL HLK e1 e2 e3 hba hbc hba3
              go_wp2_with (at_builtin; refine qu_list rfl (.tmp 53) (.tmp 56) (w.heap.size + 1) 22 3 rfl i0 (.int .i64 0) 8 Tryd.underlying22 HI.out HI0.out HI1.out HI2.out rfl (by decide) rfl HQA.out (by simp; omega) (by omega) ⟨w7.heap.size, 0, none⟩ 1 (.int .i64 yt) rfl HNW.out rfl ?_; intro g6 off6 cap6 w6 hq6 hg6 hd6; have HQ6 := Lib.hid hq6; have HG6 := Lib.hid hg6; clear hq6 hg6 hd6)
              refine ⟨⟨n + 1, K' ++ [yt], _, g6, off6, cap6, _, _, by omega, by go_num, by rw [show (K' ++ [yt]).length - i = m + 1 by simp; omega], by simp; omega, by rw [e0_left hi']; exact hu', HBA.out, ChW.push (K := K') (by rw [hm3]; exact HQ7.out) (by rw [hLL]; exact M7.out) HM7.out HR7.out HB7.out HX7.out (by rw [hm3]; exact HQ6.out) HG6.out (by omega), step_push HQ7.out (by rw [← hA5]; exact HS7.out) HG6.out⟩, by simp [intOf]; omega⟩
        · obtain rfl : S.length = n := by omega
          have HT := Lib.hid (hcw.q.tail (by omega))
          have hqle := hcw.q.le
          have HBN := Lib.hid (hbf.next hi' (by rw [hu', HS.out]))
          have HCN := Lib.hid hcw
          have HMN := Lib.hid (mcount_eq hcw.m)
          rw [hcw.mp.sz] at HMN
          obtain ⟨mm, hm⟩ : ∃ mm, K'.length - i = mm := ⟨_, rfl⟩
          have hm1 : K'.length - (i + 1) = mm - 1 := by omega
          have mp : 0 < mm := by omega
          have mle : mm ≤ 24 := by omega
          rw [hm] at HT hqle
          rw [hm]
          clear hcw hso hbf
          by_cases hc1 : cap' = 1
          · rw [if_pos hc1] at HT
            subst hc1
            obtain rfl : mm = 1 := by omega
            go_wp2_with fail
            refine ⟨⟨K', C', i + 1, g', off', 0, D', hs', by rw [hm1], HBN.out, ⟨?_, HCN.out.m, HCN.out.mp, HCN.out.r, HCN.out.b, HCN.out.box⟩⟩, ?_⟩
            · have := HT.out
              rw [zv_drop_one] at this
              rw [hm1]
              exact this
            · rw [HMN.out, HMC.out]
              show 0 + (24 - K'.length) < m + (24 - K.length)
              have := HMO.out
              omega
          · rw [if_neg hc1] at HT
            go_wp2_with fail
            refine ⟨⟨K', C', i + 1, g', off' + 1, cap' - 1, D', hs', by rw [hm1], HBN.out, ⟨?_, HCN.out.m, HCN.out.mp, HCN.out.r, HCN.out.b, HCN.out.box⟩⟩, ?_⟩
            · have := HT.out
              rw [zv_drop_one] at this
              rw [hm1]
              exact this
            · rw [HMN.out, HMC.out]
              show mm - 1 + (24 - K'.length) < m + (24 - K.length)
              have := HMO.out
              omega
    · have hil : i = K.length := by have := hbf.le; omega
      subst hil
      have h0 : K.length - K.length = 0 := by omega
      rw [h0]
      have HCW := Lib.hid hcw
      clear hcw
      go_wp2_with fail
      go_ret
      exact ⟨_, K, C, D, hs, rfl, by omega, HCW.out.m.mono hk24, HCW.out.mp, hbf, fun j hj => by
        obtain ⟨A, cc, e, ho⟩ := HCW.out.r j hj
        exact ⟨A, cc, e, own_base ho (by omega)⟩, HCW.out.b⟩

end Go.Proofs.YtahggnlmabdbbaaDoor.Di
