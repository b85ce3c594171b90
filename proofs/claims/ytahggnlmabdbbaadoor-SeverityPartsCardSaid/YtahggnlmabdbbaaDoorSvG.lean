import Derived.Test.YtahggnlmabdbbaaDoorSvF
namespace Go.Proofs.YtahggnlmabdbbaaDoor.Di
open Go.RowKit Go.Shelf Go.Maps
open Go.Proofs.YtahggnlmabdbbaaDoor.Tp
open Go.Proofs.YtahggnlmabdbbaaDoor.Sx
set_option linter.unusedVariables false
/-- One step leads from a to j. -/
def Stp (x : Rt) (a j : Nat) : Prop := ∃ st, IsSt x (a : Int) st ∧ st.t = (j : Int)
/-- Block b holds n bools; a true one says something. -/
def RB (w : World) (b n : Nat) (Pr : Nat → Prop) : Prop := ∃ l : List Bool, l.length = n ∧ Bx w b (l.map Value.bool) 4 ∧ ∀ j, l[j]? = some true → Pr j
def Qn (x : Rt) (B n : Nat) (Lo : List Value) (k : Nat) (w : World) : Prop := ∀ a, a < k → ∃ ba, Lo[a]? = some (.slice (some ⟨ba, 0, none⟩) n n) ∧ B < ba ∧ ba < w.heap.size ∧ RB w ba n (Stp x a)
theorem Qn.has {x : Rt} {B n k : Nat} {Lo : List Value} {w : World} (h : Qn x B n Lo k w) : Has w (B + 1) w.heap.size (Qn x B n Lo k) :=
  ⟨Nat.le_refl _, h, fun w' hs hb a ha => by
    obtain ⟨ba, h1, h2, h3, l, h4, h5, h6⟩ := h a ha
    exact ⟨ba, h1, h2, by omega, l, h4, (hb ba h2 h3).trans h5, h6⟩⟩
theorem nth_some {l : List Value} {k : Nat} (h : k < l.length) : ∃ u, nth l k = some u := ⟨l[k], by rw [nth_get]; exact List.getElem?_eq_getElem h⟩
theorem upd_len (l : List Value) (k : Nat) (v : Value) : (upd l k v).length = l.length := by rw [upd_set, List.length_set]
theorem upd_at {l : List Value} {k : Nat} (v : Value) (h : k < l.length) : (upd l k v)[k]? = some v := by rw [upd_set]; exact List.getElem?_set_self h
theorem upd_ne {l : List Value} {k j : Nat} (v : Value) (h : k ≠ j) : (upd l k v)[j]? = l[j]? := by rw [upd_set]; exact List.getElem?_set_ne h
theorem upd_bools (l : List Bool) (k : Nat) (t : Bool) : upd (l.map Value.bool) k (.bool t) = (l.set k t).map Value.bool := by rw [upd_set, List.map_set]
theorem set_true {l : List Bool} {k j : Nat} {t : Bool} {Pr : Nat → Prop} (hl : ∀ j, l[j]? = some true → Pr j) (ht : t = true → Pr k) (h : (l.set k t)[j]? = some true) : Pr j := by
  rw [List.getElem?_set] at h
  by_cases hj : k = j
  · subst hj
    by_cases hk : k < l.length
    · simp [hk] at h; exact ht h
    · simp [hk] at h
  · rw [if_neg hj] at h; exact hl j h
theorem rep_true {n j : Nat} (h : (List.replicate n false)[j]? = some true) : False := by
  rw [List.getElem?_replicate] at h
  split at h <;> simp at h
theorem bool_at {l : List Bool} {k n : Nat} (hl : l.length = n) (h : k < n) : ∃ t, l[k]? = some t ∧ (l.map Value.bool)[k]? = some (.bool t) := ⟨l[k]'(by omega), List.getElem?_eq_getElem (by omega), by rw [List.getElem?_map, List.getElem?_eq_getElem (by omega)]; rfl⟩
def RchPost (x : Rt) (c : Int) (n : Nat) (w : World) (e : Ending) (w' : World) : Prop := ∃ b, e = .returned (.slice (some ⟨b, 0, none⟩) n n) ∧ w.heap.size ≤ b ∧ RB w' b n (fun j => Rch x c (j : Int)) ∧ Below w.heap.size w w'
set_option maxRecDepth 100000 in
set_option maxHeartbeats 8000000 in
theorem rreach_any (x : Rt) (v : Vr) (c : Int) (n : Nat) (w : World) (h : RL w 0 x v) (hok : Rok x) (hc : 0 ≤ c ∧ c < x.c) (hn : x.c = (n : Int)) :
    Calls Tryd.prog 32 #[.agg (gr x v), .int .i64 c] w (RchPost x c n w) := by
  have HX := Has.rl h
  have hc24 := hok.c1
  obtain ⟨cn, hcn⟩ : ∃ cn : Nat, c = (cn : Int) := ⟨c.toNat, by omega⟩
  have E : Rel (fun x => w.heap.size ≤ x) w w := Rel.refl _ _
  refine Sx.enter Tryd.func32 rfl Tryd.ntmps32 rfl (fun fr => ?_)
  refine Sx.seq ?_
  refine Sx.reg ?_
  refine Sx.sy (y_box rfl rfl) rfl (wnt0 rfl) ?_
  rintro _ w1 ⟨b1, rfl, n1, x1⟩
  have l1_HX : w.heap.size ≤ b1 := Nat.le_trans HX.le n1.ge
  have g1 : w.heap.size ≤ b1 := Nat.le_trans E.size n1.ge
  replace HX := HX.nw n1.r
  replace E := E.then n1.r (fun _ _ h => h.elim)
  refine Sx.sv (r_as rfl) rfl (wnt0 rfl) ?_
  refine wnil ?_
  refine Sx.nT ?_
  refine Sx.seq ?_
  refine Sx.reg ?_
  refine Sx.sv (r_fa fo27_0 rfl) rfl (wnt0 rfl) ?_
  refine Sx.sv (r_ld ty3 rfl (x1.seg) rfl) rfl (wnt0 rfl) ?_
  refine Sx.sy (y_mks Tryd.underlying81 zi70 rfl (by decide) rfl hn (by omega)) rfl (wnt0 rfl) ?_
  rintro _ w2 ⟨b2, rfl, n2, x2⟩
  have l2_HX : w.heap.size ≤ b2 := Nat.le_trans HX.le n2.ge
  have l2_x1 : b1 < b2 := Nat.lt_of_lt_of_le x1.lt n2.ge
  have g2 : w.heap.size ≤ b2 := Nat.le_trans E.size n2.ge
  replace HX := HX.nw n2.r
  replace x1 := x1.nw n2.r
  replace E := E.then n2.r (fun _ _ h => h.elim)
  refine Sx.sv (r_as rfl) rfl (wnt0 rfl) ?_
  refine wnil ?_
  refine Sx.nT ?_
  refine Sx.seq ?_
  refine Sx.seq ?_
  refine Sx.reg ?_
  refine Sx.sv (r_mv rfl) rfl (wnt0 rfl) ?_
  refine Sx.sv (r_ln Tryd.underlying81 rfl) rfl (wnt0 rfl) ?_
  refine Sx.sv (r_mv rfl) rfl (wnt0 rfl) ?_
  refine wnil ?_
  refine Sx.nT ?_
  refine Sx.blk ?_
  have HQ := Qn.has (x := x) (B := b2) (n := n) (k := 0) (Lo := List.replicate n (.slice none 0 0)) (w := w2) (fun a ha => absurd ha (Nat.not_lt_zero a))
  have t3_HX := HX.le
  have t3_x1 := x1.lt
  have t3_x2 := x2.lt
  refine Sx.lp (Nat × List Value) (fun ⟨a, Lo⟩ => [(16, .int .i64 (a : Int)), (15, .int .i64 (n : Int)), (5, .slice (some ⟨b2, 0, none⟩) n n), (2, .pointer (some ⟨b1, 0, none⟩)), (1, .int .i64 c)]) (fun ⟨a, Lo⟩ wr => Rel (fun x => x = b2 ∨ w2.heap.size ≤ x) w2 wr ∧ a ≤ n ∧ Lo.length = n ∧ Bx wr b2 Lo 70 ∧ Qn x b2 n Lo a wr) (fun ⟨a, Lo⟩ => n - a) ⟨0, List.replicate n (.slice none 0 0)⟩ ⟨rfl, rfl, rfl, rfl, rfl, trivial⟩ ⟨Rel.refl _ _, Nat.zero_le _, List.length_replicate, x2, HQ.ok⟩ ?_
  rintro ⟨a, Lo⟩ fr w3 ⟨E3, ha, hLo, x2, hQ⟩
  show Code.wp _ _ _ (Fa fr [(16, .int .i64 (a : Int)), (15, .int .i64 (n : Int)), (5, .slice (some ⟨b2, 0, none⟩) n n), (2, .pointer (some ⟨b1, 0, none⟩)), (1, .int .i64 c)]) _
  replace HX := HX.rel E3 (fun x h1 h2 => show ¬ (x = b2 ∨ w2.heap.size ≤ x) by omega)
  replace x1 := x1.rel E3 (show ¬ (b1 = b2 ∨ w2.heap.size ≤ b1) by omega)
  have s3_E := E.size
  replace E := E.then E3 (fun x hx (e : x = b2 ∨ w2.heap.size ≤ x) => show w.heap.size ≤ x by omega)
  have lB2 := t3_x2
  have HQ := hQ.has
  refine Sx.seq ?_
  refine Sx.reg ?_
  refine Sx.sv (r_lt rfl rfl) rfl (wnt0 rfl) ?_
  refine wnil ?_
  refine Sx.nT ?_
  refine Sx.seq ?_
  by_cases hlt : a < n
  · refine Sx.ct rfl (decide_eq_true (by omega)) ?_
    refine wp_skip ?_
    refine Sx.nT ?_
    refine Sx.seq ?_
    refine Sx.blk ?_
    refine Sx.seq ?_
    refine Sx.reg ?_
    refine Sx.sv (r_mv rfl) rfl (wnt0 rfl) ?_
    refine Sx.sv (r_as rfl) rfl (wnt0 rfl) ?_
    refine wnil ?_
    refine Sx.nT ?_
    refine Sx.seq ?_
    refine Sx.reg ?_
    refine Sx.sv (r_mv rfl) rfl (wnt0 rfl) ?_
    refine Sx.sv (r_mv rfl) rfl (wnt0 rfl) ?_
    refine Sx.sv (r_fa fo27_0 rfl) rfl (wnt0 rfl) ?_
    refine Sx.sv (r_ld ty3 rfl (x1.seg) rfl) rfl (wnt0 rfl) ?_
    refine Sx.sy (y_mks Tryd.underlying70 zi4 rfl (by decide) rfl hn (by omega)) rfl (wnt0 rfl) ?_
    rintro _ w4 ⟨b4, rfl, n4, x4⟩
    have l4_HX : w.heap.size ≤ b4 := Nat.le_trans HX.le n4.ge
    have l4_x1 : b1 < b4 := Nat.lt_of_lt_of_le x1.lt n4.ge
    have l4_x2 : b2 < b4 := Nat.lt_of_lt_of_le x2.lt n4.ge
    have l4_HQ : w3.heap.size ≤ b4 := Nat.le_trans HQ.le n4.ge
    have g4 : w.heap.size ≤ b4 := Nat.le_trans E.size n4.ge
    have g4_E3 : w2.heap.size ≤ b4 := Nat.le_trans E3.size n4.ge
    replace HX := HX.nw n4.r
    replace x1 := x1.nw n4.r
    replace x2 := x2.nw n4.r
    replace HQ := HQ.nw n4.r
    replace E := E.then n4.r (fun _ _ h => h.elim)
    replace E3 := E3.then n4.r (fun _ _ h => h.elim)
    refine Sx.sv (r_ix1i ix81 rfl (by first | rfl | assumption) rfl (by first | rfl | assumption) (by omega)) rfl (wnt0 rfl) ?_
    obtain ⟨u0, hnt⟩ := nth_some (l := Lo) (k := a) (by omega)
    refine Sx.syu (u_st sz70 rfl rfl rfl rfl x2 hnt) rfl (wnt0 rfl) ?_
    rintro w5 ⟨r5, z5, xon⟩
    replace HX := HX.ch r5 (by omega)
    replace x1 := x1.ch r5 (by omega)
    replace HQ := HQ.ch r5 (by omega)
    replace x4 := x4.ch r5 (by omega)
    replace E := E.then r5 (fun x hx (e : x = b2) => show w.heap.size ≤ x by omega)
    replace E3 := E3.then r5 (fun x hx (e : x = b2) => show x = b2 ∨ w2.heap.size ≤ x by omega)
    replace x2 := xon; clear xon
    have hL1 : (upd Lo a (.slice (some ⟨b4, 0, none⟩) n n)).length = n := by rw [upd_len, hLo]
    have hL2 : (upd Lo a (.slice (some ⟨b4, 0, none⟩) n n))[a]? = some (.slice (some ⟨b4, 0, none⟩) n n) := upd_at _ (by omega)
    replace HQ := HQ.map (G := Qn x b2 n (upd Lo a (.slice (some ⟨b4, 0, none⟩) n n)) a) (fun w1 hq a1 h1 => by
      obtain ⟨ba, h2, h3⟩ := hq a1 h1
      exact ⟨ba, (upd_ne _ (by omega)).trans h2, h3⟩)
    generalize upd Lo a (.slice (some ⟨b4, 0, none⟩) n n) = Lo2 at *
    have mo : Me _ b2 (0 + a) [(.slice (some ⟨b4, 0, none⟩) n n)] := .one x2.lt (x2.seg a _ hL2)
    have hbk : b2 < b4 := by omega
    refine wnil ?_
    refine Sx.nT ?_
    refine Sx.seq ?_
    refine Sx.reg ?_
    refine Sx.sv (r_mv rfl) rfl (wnt0 rfl) ?_
    refine Sx.sv (r_mv rfl) rfl (wnt0 rfl) ?_
    refine Sx.sv (r_ix1i ix81 rfl (by first | rfl | assumption) rfl (by first | rfl | assumption) (by omega)) rfl (wnt0 rfl) ?_
    refine Sx.sv (r_ld0 ty70 rfl (mo.seg) rfl) rfl (wnt0 rfl) ?_
    refine Sx.sv (r_ln Tryd.underlying70 rfl) rfl (wnt0 rfl) ?_
    refine Sx.sv (r_mv rfl) rfl (wnt0 rfl) ?_
    refine wnil ?_
    refine Sx.nT ?_
    refine Sx.blk ?_
    rw [← List.map_replicate] at x4
    have t6_HX := HX.le
    have t6_x1 := x1.lt
    have t6_x2 := x2.lt
    have t6_HQ := HQ.le
    have t6_x4 := x4.lt
    have t6_mo := mo.lt
    refine Sx.lp (Nat × List Bool) (fun ⟨b, l⟩ => [(30, .int .i64 (b : Int)), (29, .int .i64 (n : Int)), (6, .int .i64 (a : Int)), (16, .int .i64 (a : Int)), (15, .int .i64 (n : Int)), (5, .slice (some ⟨b2, 0, none⟩) n n), (2, .pointer (some ⟨b1, 0, none⟩)), (1, .int .i64 c)]) (fun ⟨b, l⟩ wr => Rel (fun x => x = b4 ∨ w5.heap.size ≤ x) w5 wr ∧ b ≤ n ∧ l.length = n ∧ (∀ j, l[j]? = some true → Stp x a j) ∧ Bx wr b4 (l.map Value.bool) 4) (fun ⟨b, l⟩ => n - b) ⟨0, List.replicate n false⟩ ⟨rfl, rfl, rfl, rfl, rfl, rfl, rfl, rfl, trivial⟩ ⟨Rel.refl _ _, Nat.zero_le _, List.length_replicate, (fun j hj => (rep_true hj).elim), x4⟩ ?_
    rintro ⟨b, l⟩ fr w6 ⟨E6, hb, hl, hS, x4⟩
    show Code.wp _ _ _ (Fa fr [(30, .int .i64 (b : Int)), (29, .int .i64 (n : Int)), (6, .int .i64 (a : Int)), (16, .int .i64 (a : Int)), (15, .int .i64 (n : Int)), (5, .slice (some ⟨b2, 0, none⟩) n n), (2, .pointer (some ⟨b1, 0, none⟩)), (1, .int .i64 c)]) _
    replace HX := HX.rel E6 (fun x h1 h2 => show ¬ (x = b4 ∨ w5.heap.size ≤ x) by omega)
    replace x1 := x1.rel E6 (show ¬ (b1 = b4 ∨ w5.heap.size ≤ b1) by omega)
    replace x2 := x2.rel E6 (show ¬ (b2 = b4 ∨ w5.heap.size ≤ b2) by omega)
    replace HQ := HQ.rel E6 (fun x h1 h2 => show ¬ (x = b4 ∨ w5.heap.size ≤ x) by omega)
    replace mo := mo.rel E6 (show ¬ (b2 = b4 ∨ w5.heap.size ≤ b2) by omega)
    have s6_E := E.size
    replace E := E.then E6 (fun x hx (e : x = b4 ∨ w5.heap.size ≤ x) => show w.heap.size ≤ x by omega)
    have s6_E3 := E3.size
    replace E3 := E3.then E6 (fun x hx (e : x = b4 ∨ w5.heap.size ≤ x) => show x = b2 ∨ w2.heap.size ≤ x by omega)
    have lk4 := t6_x4
    refine Sx.seq ?_
    refine Sx.reg ?_
    refine Sx.sv (r_lt rfl rfl) rfl (wnt0 rfl) ?_
    refine wnil ?_
    refine Sx.nT ?_
    refine Sx.seq ?_
    by_cases hlt2 : b < n
    · refine Sx.ct rfl (decide_eq_true (by omega)) ?_
      obtain ⟨t0, -, ht0⟩ := bool_at hl hlt2
      refine wp_skip ?_
      refine Sx.nT ?_
      refine Sx.seq ?_
      refine Sx.blk ?_
      refine Sx.seq ?_
      refine Sx.reg ?_
      refine Sx.sv (r_mv rfl) rfl (wnt0 rfl) ?_
      refine Sx.sv (r_as rfl) rfl (wnt0 rfl) ?_
      refine wnil ?_
      refine Sx.nT ?_
      refine Sx.drg 10 (fun w7 wv => Rel (fun x => w7.heap.size ≤ x) w7 wv) mx (fun w7 hd => ?_)
      replace HX := HX.nw hd
      replace x1 := x1.nw hd
      replace x2 := x2.nw hd
      replace HQ := HQ.nw hd
      replace mo := mo.nw hd
      replace x4 := x4.nw hd
      replace E := E.then hd (fun _ _ h => h.elim)
      replace E3 := E3.then hd (fun _ _ h => h.elim)
      replace E6 := E6.then hd (fun _ _ h => h.elim)
      have sd7_E := E.size
      have sd7_E3 := E3.size
      have sd7_E6 := E6.size
      have q_HX := HX.le
      have q_x1 := x1.lt
      have q_x2 := x2.lt
      have q_HQ := HQ.le
      have q_mo := mo.lt
      have q_x4 := x4.lt
      have d_HX := HX
      have d_x1 := x1
      have d_x2 := x2
      have d_HQ := HQ
      have d_mo := mo
      have d_x4 := x4
      have hS : Rel (fun x => w7.heap.size ≤ x) w7 w7 := Rel.refl _ _
      refine Sx.dt (i := 0) rfl (by kernel_rfl) (by kernel_rfl) (by kernel_rfl) (by kernel_rfl) (fun _ _ _ _ h => h) rfl (wnt0 rfl) (fun wv h2 => r_mv rfl) hS ?_
      refine Sx.dt (i := 1) rfl (by kernel_rfl) (by kernel_rfl) (by kernel_rfl) (by kernel_rfl) (fun _ _ _ _ h => h) rfl (wnt0 rfl) (fun wv h2 => r_mv rfl) hS ?_
      refine Sx.dt (i := 4) rfl (by kernel_rfl) (by kernel_rfl) (by kernel_rfl) (by kernel_rfl) (fun _ _ _ _ h => h) rfl (wnt0 rfl) (fun wv h2 => r_mv rfl) hS ?_
      refine Sx.dt (i := 5) rfl (by kernel_rfl) (by kernel_rfl) (by kernel_rfl) (by kernel_rfl) (fun _ _ _ _ h => h) rfl (wnt0 rfl) (fun wv h2 => r_ldr ty27 rfl ((d_x1.rel h2 (show ¬ (w7.heap.size ≤ b1) from by omega)).seg) rfl) hS ?_
      refine Sx.dt (i := 6) rfl (by kernel_rfl) (by kernel_rfl) (by kernel_rfl) (by kernel_rfl) (fun _ _ _ _ h => h) rfl (wnt0 rfl) (fun wv h2 => r_mv rfl) hS ?_
      refine Sx.dt (i := 7) rfl (by kernel_rfl) (by kernel_rfl) (by kernel_rfl) (by kernel_rfl) (fun _ _ _ _ h => h) rfl (wnt0 rfl) (fun wv h2 => r_mv rfl) hS ?_
      refine Sx.dt (i := 2) rfl (by kernel_rfl) (by kernel_rfl) (by kernel_rfl) (by kernel_rfl) (fun _ _ _ _ h => h) rfl (wnt0 rfl) (fun wv h2 => r_ix1i ix81 rfl (by first | rfl | assumption) rfl (by first | rfl | assumption) (by omega)) hS ?_
      refine Sx.dt (i := 3) rfl (by kernel_rfl) (by kernel_rfl) (by kernel_rfl) (by kernel_rfl) (fun _ _ _ _ h => h) rfl (wnt0 rfl) (fun wv h2 => r_ld0 ty70 rfl ((d_mo.rel h2 (show ¬ (w7.heap.size ≤ b2) from by omega)).seg) rfl) hS ?_
      refine Sx.da1 (i := 8) (by kernel_rfl) ?_
      refine Sx.wc rfl (wnt0 rfl) rfl (r_call en45 rfl) (leads_any x v (a : Int) (b : Int) _ HX.ok hok) ?_
      rintro e w8 ⟨t, rfl, ht, hb8⟩
      have r8 := Rel.of0 hb8
      replace HX := HX.nw r8
      replace x1 := x1.nw r8
      replace x2 := x2.nw r8
      replace HQ := HQ.nw r8
      replace mo := mo.nw r8
      replace x4 := x4.nw r8
      replace E := E.then r8 (fun _ _ h => h.elim)
      replace E3 := E3.then r8 (fun _ _ h => h.elim)
      replace E6 := E6.then r8 (fun _ _ h => h.elim)
      replace hS : Rel (fun x => w7.heap.size ≤ x) w7 w8 := hS.then r8 (fun _ _ h => h.elim)
      refine ⟨_, rfl, .inr hS, ?_⟩
      refine Sx.dt (i := 9) rfl (by kernel_rfl) (by kernel_rfl) (by kernel_rfl) (by kernel_rfl) (fun _ _ _ _ h => h) rfl (wnt0 rfl) (fun wv h2 => r_ix1i ix70 rfl (by first | rfl | assumption) rfl (by first | rfl | assumption) (by omega)) hS ?_
      refine Sx.da1 (i := 10) (by kernel_rfl) ?_
      refine Sx.wyu rfl (wnt0 rfl) (u_st sz4 rfl rfl rfl rfl x4 ((nth_get _ _).trans ht0)) rfl ?_
      rintro w9 ⟨r9, z9, xkn⟩
      replace HX := HX.ch r9 (by omega)
      replace x1 := x1.ch r9 (by omega)
      replace x2 := x2.ch r9 (by omega)
      replace HQ := HQ.ch r9 (by omega)
      replace mo := mo.ch r9 (by omega)
      replace E := E.then r9 (fun x hx (e : x = b4) => show w.heap.size ≤ x by omega)
      replace E3 := E3.then r9 (fun x hx (e : x = b4) => show x = b2 ∨ w2.heap.size ≤ x by omega)
      replace E6 := E6.then r9 (fun x hx (e : x = b4) => show x = b4 ∨ w5.heap.size ≤ x by omega)
      replace x4 := xkn; clear xkn
      refine ⟨.inl rfl, ?_⟩
      refine Sx.dz (by kernel_rfl) ?_
      clear hS d_HX d_x1 d_x2 d_HQ d_mo d_x4
      refine Sx.nB ?_
      refine Sx.nT ?_
      refine Sx.reg ?_
      refine Sx.sv (r_add rfl rfl (by omega) (by omega)) rfl (wnt0 rfl) ?_
      refine Sx.sv (r_mv rfl) rfl (wnt0 rfl) ?_
      refine wnil ?_
      refine Sx.nT ?_
      rw [upd_bools] at x4
      exact Sx.lpe (⟨b + 1, l.set b t⟩) ⟨rfl, rfl, rfl, rfl, rfl, rfl, rfl, rfl, trivial⟩ ⟨E6, hlt2, by rw [List.length_set, hl], (fun j hj => set_true hS (fun h => ht h) hj), x4⟩ (show n - (b + 1) < n - b by omega)
    · refine Sx.cf rfl (decide_eq_false (by omega)) ?_
      refine wp_exit ?_
      refine Sx.eT ?_
      refine Sx.eT ?_
      refine Sx.eB ?_
      refine Sx.nB ?_
      refine Sx.nT ?_
      refine Sx.reg ?_
      refine Sx.sv (r_add rfl rfl (by omega) (by omega)) rfl (wnt0 rfl) ?_
      refine Sx.sv (r_mv rfl) rfl (wnt0 rfl) ?_
      refine wnil ?_
      refine Sx.nT ?_
      exact Sx.lpe (⟨a + 1, Lo2⟩) ⟨rfl, rfl, rfl, rfl, rfl, trivial⟩ ⟨E3, hlt, hL1, x2, (fun a1 h1 => by
            by_cases h2 : a1 = a
            · subst h2; exact ⟨b4, hL2, hbk, x4.lt, l, hl, x4, hS⟩
            · exact HQ.ok a1 (by omega))⟩ (show n - (a + 1) < n - a by omega)
  · refine Sx.cf rfl (decide_eq_false (by omega)) ?_
    have han : a = n := by omega
    rw [han] at HQ
    refine wp_exit ?_
    refine Sx.eT ?_
    refine Sx.eT ?_
    refine Sx.eB ?_
    refine Sx.nT ?_
    refine Sx.seq ?_
    refine Sx.reg ?_
    refine Sx.sv (r_fa fo27_0 rfl) rfl (wnt0 rfl) ?_
    refine Sx.sv (r_ld ty3 rfl (x1.seg) rfl) rfl (wnt0 rfl) ?_
    refine Sx.sy (y_mks Tryd.underlying70 zi4 rfl (by decide) rfl hn (by omega)) rfl (wnt0 rfl) ?_
    rintro _ w10 ⟨b10, rfl, n10, x10⟩
    have l10_HX : w.heap.size ≤ b10 := Nat.le_trans HX.le n10.ge
    have l10_x1 : b1 < b10 := Nat.lt_of_lt_of_le x1.lt n10.ge
    have l10_x2 : b2 < b10 := Nat.lt_of_lt_of_le x2.lt n10.ge
    have l10_HQ : w3.heap.size ≤ b10 := Nat.le_trans HQ.le n10.ge
    have g10 : w.heap.size ≤ b10 := Nat.le_trans E.size n10.ge
    replace HX := HX.nw n10.r
    replace x1 := x1.nw n10.r
    replace x2 := x2.nw n10.r
    replace HQ := HQ.nw n10.r
    replace E := E.then n10.r (fun _ _ h => h.elim)
    refine Sx.sv (r_as rfl) rfl (wnt0 rfl) ?_
    refine wnil ?_
    refine Sx.nT ?_
    refine Sx.seq ?_
    refine Sx.reg ?_
    refine Sx.sv (r_mv rfl) rfl (wnt0 rfl) ?_
    refine Sx.sv (r_mv rfl) rfl (wnt0 rfl) ?_
    refine Sx.sv (r_ix1i ix70 rfl (by first | rfl | assumption) rfl (by first | rfl | assumption) (by omega)) rfl (wnt0 rfl) ?_
    rw [← List.map_replicate] at x10
    obtain ⟨t0, -, ht0⟩ := bool_at (l := List.replicate n false) (n := n) List.length_replicate (show cn < n by omega)
    refine Sx.syu (u_st sz4 rfl rfl rfl rfl x10 ((nth_get _ _).trans ht0)) rfl (wnt0 rfl) ?_
    rintro w11 ⟨r11, z11, xrn⟩
    replace HX := HX.ch r11 (by omega)
    replace x1 := x1.ch r11 (by omega)
    replace x2 := x2.ch r11 (by omega)
    replace HQ := HQ.ch r11 (by omega)
    replace E := E.then r11 (fun x hx (e : x = b10) => show w.heap.size ≤ x by omega)
    replace x10 := xrn; clear xrn
    rw [upd_bools] at x10
    have hO0 : ∀ j : Nat, ((List.replicate n false).set cn true)[j]? = some true → Rch x c (j : Int) := fun j hj => set_true (Pr := fun j : Nat => Rch x c (j : Int)) (fun j h => (rep_true h).elim) (fun _ => hcn ▸ Rch.refl _ _) hj
    have hOl : ((List.replicate n false).set cn true).length = n := by rw [List.length_set, List.length_replicate]
    have hBr : b2 < b10 := by omega
    refine wnil ?_
    refine Sx.nT ?_
    refine Sx.seq ?_
    refine Sx.seq ?_
    refine Sx.reg ?_
    refine Sx.sv (r_mv rfl) rfl (wnt0 rfl) ?_
    refine Sx.sv (r_ln Tryd.underlying70 rfl) rfl (wnt0 rfl) ?_
    refine Sx.sv (r_mv rfl) rfl (wnt0 rfl) ?_
    refine wnil ?_
    refine Sx.nT ?_
    refine Sx.blk ?_
    have t12_HX := HX.le
    have t12_x1 := x1.lt
    have t12_x2 := x2.lt
    have t12_HQ := HQ.le
    have t12_x10 := x10.lt
    refine Sx.lp (Nat × List Bool) (fun ⟨i1, o1⟩ => [(53, .int .i64 (i1 : Int)), (52, .int .i64 (n : Int)), (8, .slice (some ⟨b10, 0, none⟩) n n), (5, .slice (some ⟨b2, 0, none⟩) n n)]) (fun ⟨i1, o1⟩ wr => Rel (fun x => x = b10 ∨ w11.heap.size ≤ x) w11 wr ∧ i1 ≤ n ∧ o1.length = n ∧ (∀ j : Nat, o1[j]? = some true → Rch x c (j : Int)) ∧ Bx wr b10 (o1.map Value.bool) 4) (fun ⟨i1, o1⟩ => n - i1) ⟨0, (List.replicate n false).set cn true⟩ ⟨rfl, rfl, rfl, rfl, trivial⟩ ⟨Rel.refl _ _, Nat.zero_le _, hOl, hO0, x10⟩ ?_
    rintro ⟨i1, o1⟩ fr w12 ⟨E12, hi1, ho1l, ho1, x10⟩
    show Code.wp _ _ _ (Fa fr [(53, .int .i64 (i1 : Int)), (52, .int .i64 (n : Int)), (8, .slice (some ⟨b10, 0, none⟩) n n), (5, .slice (some ⟨b2, 0, none⟩) n n)]) _
    replace HX := HX.rel E12 (fun x h1 h2 => show ¬ (x = b10 ∨ w11.heap.size ≤ x) by omega)
    replace x1 := x1.rel E12 (show ¬ (b1 = b10 ∨ w11.heap.size ≤ b1) by omega)
    replace x2 := x2.rel E12 (show ¬ (b2 = b10 ∨ w11.heap.size ≤ b2) by omega)
    replace HQ := HQ.rel E12 (fun x h1 h2 => show ¬ (x = b10 ∨ w11.heap.size ≤ x) by omega)
    have s12_E := E.size
    replace E := E.then E12 (fun x hx (e : x = b10 ∨ w11.heap.size ≤ x) => show w.heap.size ≤ x by omega)
    have ln10_i1 := t12_x10
    refine Sx.seq ?_
    refine Sx.reg ?_
    refine Sx.sv (r_lt rfl rfl) rfl (wnt0 rfl) ?_
    refine wnil ?_
    refine Sx.nT ?_
    refine Sx.seq ?_
    by_cases hla : i1 < n
    · refine Sx.ct rfl (decide_eq_true (by omega)) ?_
      refine wp_skip ?_
      refine Sx.nT ?_
      refine Sx.seq ?_
      refine Sx.blk ?_
      refine Sx.seq ?_
      refine Sx.reg ?_
      refine Sx.sv (r_mv rfl) rfl (wnt0 rfl) ?_
      refine Sx.sv (r_ln Tryd.underlying70 rfl) rfl (wnt0 rfl) ?_
      refine Sx.sv (r_mv rfl) rfl (wnt0 rfl) ?_
      refine wnil ?_
      refine Sx.nT ?_
      refine Sx.blk ?_
      have t13_HX := HX.le
      have t13_x1 := x1.lt
      have t13_x2 := x2.lt
      have t13_HQ := HQ.le
      have t13_x10 := x10.lt
      refine Sx.lp (Nat × List Bool) (fun ⟨i2, o2⟩ => [(57, .int .i64 (i2 : Int)), (56, .int .i64 (n : Int)), (53, .int .i64 (i1 : Int)), (52, .int .i64 (n : Int)), (8, .slice (some ⟨b10, 0, none⟩) n n), (5, .slice (some ⟨b2, 0, none⟩) n n)]) (fun ⟨i2, o2⟩ wr => Rel (fun x => x = b10 ∨ w12.heap.size ≤ x) w12 wr ∧ i2 ≤ n ∧ o2.length = n ∧ (∀ j : Nat, o2[j]? = some true → Rch x c (j : Int)) ∧ Bx wr b10 (o2.map Value.bool) 4) (fun ⟨i2, o2⟩ => n - i2) ⟨0, o1⟩ ⟨rfl, rfl, rfl, rfl, rfl, rfl, trivial⟩ ⟨Rel.refl _ _, Nat.zero_le _, ho1l, ho1, x10⟩ ?_
      rintro ⟨i2, o2⟩ fr w13 ⟨E13, hi2, ho2l, ho2, x10⟩
      show Code.wp _ _ _ (Fa fr [(57, .int .i64 (i2 : Int)), (56, .int .i64 (n : Int)), (53, .int .i64 (i1 : Int)), (52, .int .i64 (n : Int)), (8, .slice (some ⟨b10, 0, none⟩) n n), (5, .slice (some ⟨b2, 0, none⟩) n n)]) _
      replace HX := HX.rel E13 (fun x h1 h2 => show ¬ (x = b10 ∨ w12.heap.size ≤ x) by omega)
      replace x1 := x1.rel E13 (show ¬ (b1 = b10 ∨ w12.heap.size ≤ b1) by omega)
      replace x2 := x2.rel E13 (show ¬ (b2 = b10 ∨ w12.heap.size ≤ b2) by omega)
      replace HQ := HQ.rel E13 (fun x h1 h2 => show ¬ (x = b10 ∨ w12.heap.size ≤ x) by omega)
      have s13_E := E.size
      replace E := E.then E13 (fun x hx (e : x = b10 ∨ w12.heap.size ≤ x) => show w.heap.size ≤ x by omega)
      have s13_E12 := E12.size
      replace E12 := E12.then E13 (fun x hx (e : x = b10 ∨ w12.heap.size ≤ x) => show x = b10 ∨ w11.heap.size ≤ x by omega)
      have ln10_i2 := t13_x10
      refine Sx.seq ?_
      refine Sx.reg ?_
      refine Sx.sv (r_lt rfl rfl) rfl (wnt0 rfl) ?_
      refine wnil ?_
      refine Sx.nT ?_
      refine Sx.seq ?_
      by_cases hlb : i2 < n
      · refine Sx.ct rfl (decide_eq_true (by omega)) ?_
        refine wp_skip ?_
        refine Sx.nT ?_
        refine Sx.seq ?_
        refine Sx.blk ?_
        refine Sx.seq ?_
        refine Sx.reg ?_
        refine Sx.sv (r_mv rfl) rfl (wnt0 rfl) ?_
        refine Sx.sv (r_as rfl) rfl (wnt0 rfl) ?_
        refine wnil ?_
        refine Sx.nT ?_
        refine Sx.seq ?_
        refine Sx.reg ?_
        refine Sx.sv (r_mv rfl) rfl (wnt0 rfl) ?_
        refine Sx.sv (r_ln Tryd.underlying70 rfl) rfl (wnt0 rfl) ?_
        refine Sx.sv (r_mv rfl) rfl (wnt0 rfl) ?_
        refine wnil ?_
        refine Sx.nT ?_
        refine Sx.blk ?_
        have t14_HX := HX.le
        have t14_x1 := x1.lt
        have t14_x2 := x2.lt
        have t14_HQ := HQ.le
        have t14_x10 := x10.lt
        refine Sx.lp (Nat × List Bool) (fun ⟨i3, o3⟩ => [(62, .int .i64 (i3 : Int)), (61, .int .i64 (n : Int)), (9, .int .i64 (i2 : Int)), (57, .int .i64 (i2 : Int)), (56, .int .i64 (n : Int)), (53, .int .i64 (i1 : Int)), (52, .int .i64 (n : Int)), (8, .slice (some ⟨b10, 0, none⟩) n n), (5, .slice (some ⟨b2, 0, none⟩) n n)]) (fun ⟨i3, o3⟩ wr => Rel (fun x => x = b10 ∨ w13.heap.size ≤ x) w13 wr ∧ i3 ≤ n ∧ o3.length = n ∧ (∀ j : Nat, o3[j]? = some true → Rch x c (j : Int)) ∧ Bx wr b10 (o3.map Value.bool) 4) (fun ⟨i3, o3⟩ => n - i3) ⟨0, o2⟩ ⟨rfl, rfl, rfl, rfl, rfl, rfl, rfl, rfl, rfl, trivial⟩ ⟨Rel.refl _ _, Nat.zero_le _, ho2l, ho2, x10⟩ ?_
        rintro ⟨i3, o3⟩ fr w14 ⟨E14, hi3, ho3l, ho3, x10⟩
        show Code.wp _ _ _ (Fa fr [(62, .int .i64 (i3 : Int)), (61, .int .i64 (n : Int)), (9, .int .i64 (i2 : Int)), (57, .int .i64 (i2 : Int)), (56, .int .i64 (n : Int)), (53, .int .i64 (i1 : Int)), (52, .int .i64 (n : Int)), (8, .slice (some ⟨b10, 0, none⟩) n n), (5, .slice (some ⟨b2, 0, none⟩) n n)]) _
        replace HX := HX.rel E14 (fun x h1 h2 => show ¬ (x = b10 ∨ w13.heap.size ≤ x) by omega)
        replace x1 := x1.rel E14 (show ¬ (b1 = b10 ∨ w13.heap.size ≤ b1) by omega)
        replace x2 := x2.rel E14 (show ¬ (b2 = b10 ∨ w13.heap.size ≤ b2) by omega)
        replace HQ := HQ.rel E14 (fun x h1 h2 => show ¬ (x = b10 ∨ w13.heap.size ≤ x) by omega)
        have s14_E := E.size
        replace E := E.then E14 (fun x hx (e : x = b10 ∨ w13.heap.size ≤ x) => show w.heap.size ≤ x by omega)
        have s14_E12 := E12.size
        replace E12 := E12.then E14 (fun x hx (e : x = b10 ∨ w13.heap.size ≤ x) => show x = b10 ∨ w11.heap.size ≤ x by omega)
        have s14_E13 := E13.size
        replace E13 := E13.then E14 (fun x hx (e : x = b10 ∨ w13.heap.size ≤ x) => show x = b10 ∨ w12.heap.size ≤ x by omega)
        have ln10_i3 := t14_x10
        refine Sx.seq ?_
        refine Sx.reg ?_
        refine Sx.sv (r_lt rfl rfl) rfl (wnt0 rfl) ?_
        refine wnil ?_
        refine Sx.nT ?_
        refine Sx.seq ?_
        by_cases hlc : i3 < n
        · refine Sx.ct rfl (decide_eq_true (by omega)) ?_
          obtain ⟨tb, htb, hvb⟩ := bool_at ho3l hlc
          obtain ⟨ta, hta, hva⟩ := bool_at ho3l hlb
          have mb : Me _ b10 (0 + i3) [.bool tb] := .one x10.lt (x10.seg i3 _ hvb)
          have ma : Me _ b10 (0 + i2) [.bool ta] := .one x10.lt (x10.seg i2 _ hva)
          obtain ⟨ba, hn1, hn2, hn3, ln, hn4, hn5, hn6⟩ := HQ.ok i2 hlb
          obtain ⟨tn, htn, hvn⟩ := bool_at hn4 hlc
          have mn : Me _ b2 (0 + i2) [.slice (some ⟨ba, 0, none⟩) n n] := .one x2.lt (x2.seg i2 _ hn1)
          have mt : Me _ ba (0 + i3) [.bool tn] := .one hn3 (Bx.seg hn5 i3 _ hvn)
          cases tb
          · cases ta
            · refine wp_skip ?_
              refine Sx.nT ?_
              refine Sx.seq ?_
              refine Sx.blk ?_
              refine Sx.seq ?_
              refine Sx.reg ?_
              refine Sx.sv (r_mv rfl) rfl (wnt0 rfl) ?_
              refine Sx.sv (r_as rfl) rfl (wnt0 rfl) ?_
              refine wnil ?_
              refine Sx.nT ?_
              refine Sx.reg ?_
              refine Sx.sv (r_mv rfl) rfl (wnt0 rfl) ?_
              refine Sx.sv (r_mv rfl) rfl (wnt0 rfl) ?_
              refine Sx.sv (r_mv rfl) rfl (wnt0 rfl) ?_
              refine Sx.sv (r_mv rfl) rfl (wnt0 rfl) ?_
              refine Sx.sv (r_ix1i ix70 rfl (by first | rfl | assumption) rfl (by first | rfl | assumption) (by omega)) rfl (wnt0 rfl) ?_
              refine Sx.sv (r_ld0 ty4 rfl (mb.seg) rfl) rfl (wnt0 rfl) ?_
              refine Sx.sv (r_mv rfl) rfl (wnt0 rfl) ?_
              refine Sx.sv (r_mv rfl) rfl (wnt1 (dj := 71) (b0 := false) rfl rfl rfl rfl (rfl) rfl) ?_
              refine Sx.sv (r_mv rfl) rfl (wnt1 (dj := 71) (b0 := false) rfl rfl rfl rfl (rfl) rfl) ?_
              refine Sx.sv (r_ix1i ix70 rfl (by first | rfl | assumption) rfl (by first | rfl | assumption) (by omega)) rfl (wnt1 (dj := 71) (b0 := false) rfl rfl rfl rfl (rfl) rfl) ?_
              refine Sx.sv (r_ld0 ty4 rfl (ma.seg) rfl) rfl (wnt1 (dj := 71) (b0 := false) rfl rfl rfl rfl (rfl) rfl) ?_
              refine Sx.sv (r_mv rfl) rfl (wnt1 (dj := 71) (b0 := false) rfl rfl rfl rfl (rfl) rfl) ?_
              refine Sx.sg (wntF (dj := 76) (b0 := false) rfl rfl rfl rfl (rfl) rfl) rfl ?_
              refine Sx.sg (wntF (dj := 76) (b0 := false) rfl rfl rfl rfl (rfl) rfl) rfl ?_
              refine Sx.sg (wntF (dj := 76) (b0 := false) rfl rfl rfl rfl (rfl) rfl) rfl ?_
              refine Sx.sg (wntF (dj := 76) (b0 := false) rfl rfl rfl rfl (rfl) rfl) rfl ?_
              refine Sx.sg (wntF (dj := 76) (b0 := false) rfl rfl rfl rfl (rfl) rfl) rfl ?_
              refine Sx.sg (wntF (dj := 76) (b0 := false) rfl rfl rfl rfl (rfl) rfl) rfl ?_
              refine Sx.sg (wntF (dj := 76) (b0 := false) rfl rfl rfl rfl (rfl) rfl) rfl ?_
              refine Sx.sv (r_pkF rfl (rfl) rfl) rfl (wnt1 (dj := 71) (b0 := false) rfl rfl rfl rfl (rfl) rfl) ?_
              refine Sx.sv (r_pkF rfl (rfl) rfl) rfl (wnt0 rfl) ?_
              refine Sx.sv (r_ix1i ix70 rfl (by first | rfl | assumption) rfl (by first | rfl | assumption) (by omega)) rfl (wnt0 rfl) ?_
              refine Sx.syu (u_st sz4 rfl rfl rfl rfl x10 ((nth_get _ _).trans hvb)) rfl (wnt0 rfl) ?_
              rintro w15 ⟨r15, z15, xrn⟩
              replace HX := HX.ch r15 (by omega)
              replace x1 := x1.ch r15 (by omega)
              replace x2 := x2.ch r15 (by omega)
              replace HQ := HQ.ch r15 (by omega)
              replace E := E.then r15 (fun x hx (e : x = b10) => show w.heap.size ≤ x by omega)
              replace E12 := E12.then r15 (fun x hx (e : x = b10) => show x = b10 ∨ w11.heap.size ≤ x by omega)
              replace E13 := E13.then r15 (fun x hx (e : x = b10) => show x = b10 ∨ w12.heap.size ≤ x by omega)
              replace E14 := E14.then r15 (fun x hx (e : x = b10) => show x = b10 ∨ w13.heap.size ≤ x by omega)
              replace x10 := xrn; clear xrn
              rw [upd_bools] at x10
              refine wnil ?_
              refine Sx.nB ?_
              refine Sx.nT ?_
              refine Sx.reg ?_
              refine Sx.sv (r_add rfl rfl (by omega) (by omega)) rfl (wnt0 rfl) ?_
              refine Sx.sv (r_mv rfl) rfl (wnt0 rfl) ?_
              refine wnil ?_
              refine Sx.nT ?_
              exact Sx.lpe (⟨i3 + 1, o3.set i3 false⟩) ⟨rfl, rfl, rfl, rfl, rfl, rfl, rfl, rfl, rfl, trivial⟩ ⟨E14, hlc, by rw [List.length_set, ho3l], (fun j hj => set_true (Pr := fun j : Nat => Rch x c (j : Int)) ho3 (fun h => by cases h) hj), x10⟩ (show n - (i3 + 1) < n - i3 by omega)
            · refine wp_skip ?_
              refine Sx.nT ?_
              refine Sx.seq ?_
              refine Sx.blk ?_
              refine Sx.seq ?_
              refine Sx.reg ?_
              refine Sx.sv (r_mv rfl) rfl (wnt0 rfl) ?_
              refine Sx.sv (r_as rfl) rfl (wnt0 rfl) ?_
              refine wnil ?_
              refine Sx.nT ?_
              refine Sx.reg ?_
              refine Sx.sv (r_mv rfl) rfl (wnt0 rfl) ?_
              refine Sx.sv (r_mv rfl) rfl (wnt0 rfl) ?_
              refine Sx.sv (r_mv rfl) rfl (wnt0 rfl) ?_
              refine Sx.sv (r_mv rfl) rfl (wnt0 rfl) ?_
              refine Sx.sv (r_ix1i ix70 rfl (by first | rfl | assumption) rfl (by first | rfl | assumption) (by omega)) rfl (wnt0 rfl) ?_
              refine Sx.sv (r_ld0 ty4 rfl (mb.seg) rfl) rfl (wnt0 rfl) ?_
              refine Sx.sv (r_mv rfl) rfl (wnt0 rfl) ?_
              refine Sx.sv (r_mv rfl) rfl (wnt1 (dj := 71) (b0 := false) rfl rfl rfl rfl (rfl) rfl) ?_
              refine Sx.sv (r_mv rfl) rfl (wnt1 (dj := 71) (b0 := false) rfl rfl rfl rfl (rfl) rfl) ?_
              refine Sx.sv (r_ix1i ix70 rfl (by first | rfl | assumption) rfl (by first | rfl | assumption) (by omega)) rfl (wnt1 (dj := 71) (b0 := false) rfl rfl rfl rfl (rfl) rfl) ?_
              refine Sx.sv (r_ld0 ty4 rfl (ma.seg) rfl) rfl (wnt1 (dj := 71) (b0 := false) rfl rfl rfl rfl (rfl) rfl) ?_
              refine Sx.sv (r_mv rfl) rfl (wnt1 (dj := 71) (b0 := false) rfl rfl rfl rfl (rfl) rfl) ?_
              refine Sx.sv (r_mv rfl) rfl (wnt1 (dj := 76) (b0 := true) rfl rfl rfl rfl (rfl) rfl) ?_
              refine Sx.sv (r_mv rfl) rfl (wnt1 (dj := 76) (b0 := true) rfl rfl rfl rfl (rfl) rfl) ?_
              refine Sx.sv (r_ix1i ix81 rfl (by first | rfl | assumption) rfl (by first | rfl | assumption) (by omega)) rfl (wnt1 (dj := 76) (b0 := true) rfl rfl rfl rfl (rfl) rfl) ?_
              refine Sx.sv (r_ld0 ty70 rfl (mn.seg) rfl) rfl (wnt1 (dj := 76) (b0 := true) rfl rfl rfl rfl (rfl) rfl) ?_
              refine Sx.sv (r_mv rfl) rfl (wnt1 (dj := 76) (b0 := true) rfl rfl rfl rfl (rfl) rfl) ?_
              refine Sx.sv (r_ix1i ix70 rfl (by first | rfl | assumption) rfl (by first | rfl | assumption) (by omega)) rfl (wnt1 (dj := 76) (b0 := true) rfl rfl rfl rfl (rfl) rfl) ?_
              refine Sx.sv (r_ld0 ty4 rfl (mt.seg) rfl) rfl (wnt1 (dj := 76) (b0 := true) rfl rfl rfl rfl (rfl) rfl) ?_
              refine Sx.sv (r_pkT rfl (rfl) rfl) rfl (wnt1 (dj := 71) (b0 := false) rfl rfl rfl rfl (rfl) rfl) ?_
              refine Sx.sv (r_pkF rfl (rfl) rfl) rfl (wnt0 rfl) ?_
              refine Sx.sv (r_ix1i ix70 rfl (by first | rfl | assumption) rfl (by first | rfl | assumption) (by omega)) rfl (wnt0 rfl) ?_
              refine Sx.syu (u_st sz4 rfl rfl rfl rfl x10 ((nth_get _ _).trans hvb)) rfl (wnt0 rfl) ?_
              rintro w16 ⟨r16, z16, xrn⟩
              replace HX := HX.ch r16 (by omega)
              replace x1 := x1.ch r16 (by omega)
              replace x2 := x2.ch r16 (by omega)
              replace HQ := HQ.ch r16 (by omega)
              replace E := E.then r16 (fun x hx (e : x = b10) => show w.heap.size ≤ x by omega)
              replace E12 := E12.then r16 (fun x hx (e : x = b10) => show x = b10 ∨ w11.heap.size ≤ x by omega)
              replace E13 := E13.then r16 (fun x hx (e : x = b10) => show x = b10 ∨ w12.heap.size ≤ x by omega)
              replace E14 := E14.then r16 (fun x hx (e : x = b10) => show x = b10 ∨ w13.heap.size ≤ x by omega)
              replace x10 := xrn; clear xrn
              rw [upd_bools] at x10
              refine wnil ?_
              refine Sx.nB ?_
              refine Sx.nT ?_
              refine Sx.reg ?_
              refine Sx.sv (r_add rfl rfl (by omega) (by omega)) rfl (wnt0 rfl) ?_
              refine Sx.sv (r_mv rfl) rfl (wnt0 rfl) ?_
              refine wnil ?_
              refine Sx.nT ?_
              exact Sx.lpe (⟨i3 + 1, o3.set i3 tn⟩) ⟨rfl, rfl, rfl, rfl, rfl, rfl, rfl, rfl, rfl, trivial⟩ ⟨E14, hlc, by rw [List.length_set, ho3l], (fun j hj => set_true (Pr := fun j : Nat => Rch x c (j : Int)) ho3 (fun h => by
                        obtain ⟨st, hs1, hs2⟩ := hn6 i3 (htn.trans (congrArg some h))
                        exact hs2 ▸ (ho3 i2 hta).step hs1) hj), x10⟩ (show n - (i3 + 1) < n - i3 by omega)
          · refine wp_skip ?_
            refine Sx.nT ?_
            refine Sx.seq ?_
            refine Sx.blk ?_
            refine Sx.seq ?_
            refine Sx.reg ?_
            refine Sx.sv (r_mv rfl) rfl (wnt0 rfl) ?_
            refine Sx.sv (r_as rfl) rfl (wnt0 rfl) ?_
            refine wnil ?_
            refine Sx.nT ?_
            refine Sx.reg ?_
            refine Sx.sv (r_mv rfl) rfl (wnt0 rfl) ?_
            refine Sx.sv (r_mv rfl) rfl (wnt0 rfl) ?_
            refine Sx.sv (r_mv rfl) rfl (wnt0 rfl) ?_
            refine Sx.sv (r_mv rfl) rfl (wnt0 rfl) ?_
            refine Sx.sv (r_ix1i ix70 rfl (by first | rfl | assumption) rfl (by first | rfl | assumption) (by omega)) rfl (wnt0 rfl) ?_
            refine Sx.sv (r_ld0 ty4 rfl (mb.seg) rfl) rfl (wnt0 rfl) ?_
            refine Sx.sv (r_mv rfl) rfl (wnt0 rfl) ?_
            refine Sx.sg (wntF (dj := 71) (b0 := true) rfl rfl rfl rfl (rfl) rfl) rfl ?_
            refine Sx.sg (wntF (dj := 71) (b0 := true) rfl rfl rfl rfl (rfl) rfl) rfl ?_
            refine Sx.sg (wntF (dj := 71) (b0 := true) rfl rfl rfl rfl (rfl) rfl) rfl ?_
            refine Sx.sg (wntF (dj := 71) (b0 := true) rfl rfl rfl rfl (rfl) rfl) rfl ?_
            refine Sx.sg (wntF (dj := 71) (b0 := true) rfl rfl rfl rfl (rfl) rfl) rfl ?_
            refine Sx.sg (wntU (dj := 76) rfl rfl rfl rfl) rfl ?_
            refine Sx.sg (wntU (dj := 76) rfl rfl rfl rfl) rfl ?_
            refine Sx.sg (wntU (dj := 76) rfl rfl rfl rfl) rfl ?_
            refine Sx.sg (wntU (dj := 76) rfl rfl rfl rfl) rfl ?_
            refine Sx.sg (wntU (dj := 76) rfl rfl rfl rfl) rfl ?_
            refine Sx.sg (wntU (dj := 76) rfl rfl rfl rfl) rfl ?_
            refine Sx.sg (wntU (dj := 76) rfl rfl rfl rfl) rfl ?_
            refine Sx.sg (wntF (dj := 71) (b0 := true) rfl rfl rfl rfl (rfl) rfl) rfl ?_
            refine Sx.sv (r_pkT rfl (rfl) rfl) rfl (wnt0 rfl) ?_
            refine Sx.sv (r_ix1i ix70 rfl (by first | rfl | assumption) rfl (by first | rfl | assumption) (by omega)) rfl (wnt0 rfl) ?_
            refine Sx.syu (u_st sz4 rfl rfl rfl rfl x10 ((nth_get _ _).trans hvb)) rfl (wnt0 rfl) ?_
            rintro w17 ⟨r17, z17, xrn⟩
            replace HX := HX.ch r17 (by omega)
            replace x1 := x1.ch r17 (by omega)
            replace x2 := x2.ch r17 (by omega)
            replace HQ := HQ.ch r17 (by omega)
            replace E := E.then r17 (fun x hx (e : x = b10) => show w.heap.size ≤ x by omega)
            replace E12 := E12.then r17 (fun x hx (e : x = b10) => show x = b10 ∨ w11.heap.size ≤ x by omega)
            replace E13 := E13.then r17 (fun x hx (e : x = b10) => show x = b10 ∨ w12.heap.size ≤ x by omega)
            replace E14 := E14.then r17 (fun x hx (e : x = b10) => show x = b10 ∨ w13.heap.size ≤ x by omega)
            replace x10 := xrn; clear xrn
            rw [upd_bools] at x10
            refine wnil ?_
            refine Sx.nB ?_
            refine Sx.nT ?_
            refine Sx.reg ?_
            refine Sx.sv (r_add rfl rfl (by omega) (by omega)) rfl (wnt0 rfl) ?_
            refine Sx.sv (r_mv rfl) rfl (wnt0 rfl) ?_
            refine wnil ?_
            refine Sx.nT ?_
            exact Sx.lpe (⟨i3 + 1, o3.set i3 true⟩) ⟨rfl, rfl, rfl, rfl, rfl, rfl, rfl, rfl, rfl, trivial⟩ ⟨E14, hlc, by rw [List.length_set, ho3l], (fun j hj => set_true (Pr := fun j : Nat => Rch x c (j : Int)) ho3 (fun _ => ho3 i3 htb) hj), x10⟩ (show n - (i3 + 1) < n - i3 by omega)
        · refine Sx.cf rfl (decide_eq_false (by omega)) ?_
          refine wp_exit ?_
          refine Sx.eT ?_
          refine Sx.eT ?_
          refine Sx.eB ?_
          refine Sx.nB ?_
          refine Sx.nT ?_
          refine Sx.reg ?_
          refine Sx.sv (r_add rfl rfl (by omega) (by omega)) rfl (wnt0 rfl) ?_
          refine Sx.sv (r_mv rfl) rfl (wnt0 rfl) ?_
          refine wnil ?_
          refine Sx.nT ?_
          exact Sx.lpe (⟨i2 + 1, o3⟩) ⟨rfl, rfl, rfl, rfl, rfl, rfl, trivial⟩ ⟨E13, hlb, ho3l, ho3, x10⟩ (show n - (i2 + 1) < n - i2 by omega)
      · refine Sx.cf rfl (decide_eq_false (by omega)) ?_
        refine wp_exit ?_
        refine Sx.eT ?_
        refine Sx.eT ?_
        refine Sx.eB ?_
        refine Sx.nB ?_
        refine Sx.nT ?_
        refine Sx.reg ?_
        refine Sx.sv (r_add rfl rfl (by omega) (by omega)) rfl (wnt0 rfl) ?_
        refine Sx.sv (r_mv rfl) rfl (wnt0 rfl) ?_
        refine wnil ?_
        refine Sx.nT ?_
        exact Sx.lpe (⟨i1 + 1, o2⟩) ⟨rfl, rfl, rfl, rfl, trivial⟩ ⟨E12, hla, ho2l, ho2, x10⟩ (show n - (i1 + 1) < n - i1 by omega)
    · refine Sx.cf rfl (decide_eq_false (by omega)) ?_
      refine wp_exit ?_
      refine Sx.eT ?_
      refine Sx.eT ?_
      refine Sx.eB ?_
      refine Sx.nT ?_
      refine Sx.seq ?_
      refine Sx.reg ?_
      refine Sx.sv (r_mv rfl) rfl (wnt0 rfl) ?_
      refine Sx.sv (r_as rfl) rfl (wnt0 rfl) ?_
      refine wnil ?_
      refine Sx.nT ?_
      refine wp_ret ?_
      exact Sx.ret1 Tryd.results32 rfl ⟨b10, rfl, by omega, ⟨o1, ho1l, x10, ho1⟩, E.toB0⟩
end Go.Proofs.YtahggnlmabdbbaaDoor.Di
