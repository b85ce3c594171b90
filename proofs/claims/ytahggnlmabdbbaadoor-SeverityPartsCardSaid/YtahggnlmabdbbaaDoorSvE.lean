import Derived.Test.YtahggnlmabdbbaaDoorSvD
namespace Go.Proofs.YtahggnlmabdbbaaDoor.Di
open Go.RowKit Go.Shelf Go.Maps
open Go.Proofs.YtahggnlmabdbbaaDoor.Tp
open Go.Proofs.YtahggnlmabdbbaaDoor.Sx
set_option linter.unusedVariables false
/-- Rights with more at their ends. -/
structure Ext (x m : Rt) : Prop where
  c : m.c = x.c
  k : m.k = x.k
  g : ∃ t, m.g = x.g ++ t
  s : ∃ t, m.s = x.s ++ t
  m : ∃ t, m.m = x.m ++ t
theorem e3_pre {l t : List T3} {j : Nat} (h : j < l.length) : e3 (l ++ t) j = e3 l j := by
  unfold e3; rw [List.getD_eq_getElem?_getD, List.getD_eq_getElem?_getD, List.getElem?_append_left h]
theorem e2_pre {l t : List T2} {j : Nat} (h : j < l.length) : e2 (l ++ t) j = e2 l j := by
  unfold e2; rw [List.getD_eq_getElem?_getD, List.getD_eq_getElem?_getD, List.getElem?_append_left h]
theorem Ext.st {x m : Rt} (h : Ext x m) {y : Int} {e : T5} (hs : IsSt x y e) : IsSt m y e := by
  obtain ⟨tg, hg⟩ := h.g
  obtain ⟨ts, hss⟩ := h.s
  obtain ⟨tm, hm⟩ := h.m
  rcases hs with ⟨n, h1, h2, rfl⟩ | ⟨i, n, h1, h2, h3, h4, rfl⟩
  · refine .inl ⟨n, by rw [hm, List.length_append]; omega, by rw [hm, e2_pre h1]; exact h2, by rw [hm, e2_pre h1]⟩
  · refine .inr ⟨i, n, by rw [hg, List.length_append]; omega, by rw [hss, List.length_append]; omega, by rw [hg, e3_pre h1]; exact h3, by rw [hg, hss, e3_pre h1, e2_pre h2]; exact h4, by rw [hss, e2_pre h2]⟩
theorem Ext.rch {x m : Rt} (h : Ext x m) {c y : Int} (hr : Rch x c y) : Rch m c y := by
  obtain ⟨l, hl⟩ := hr
  refine ⟨l, ?_⟩
  induction hl with
  | nil => exact .nil
  | snoc _ he ih => exact ih.snoc (h.st he)
theorem gt_up {x : Rt} (S : Int → Bool) (r : Int) (n : Nat) : ∀ d, gt x S r n ≤ gt x S r (n + d)
  | 0 => Int.le_refl _
  | d + 1 => by
    have ih := gt_up (x := x) S r n d
    rw [← Nat.add_assoc, gt]
    split
    · omega
    · exact ih
theorem gt_pre {x m : Rt} {t : List T3} (hg : m.g = x.g ++ t) (S : Int → Bool) (r : Int) : ∀ n, n ≤ x.g.length → gt m S r n = gt x S r n
  | 0, _ => rfl
  | n + 1, h => by rw [gt, gt, gt_pre hg S r n (by omega), hg, e3_pre (by omega)]
theorem Ext.gt {x m : Rt} (h : Ext x m) {c : Int} (r : Int) : gt x (rB x c) r x.g.length ≤ Di.gt m (rB m c) r m.g.length := by
  obtain ⟨t, hg⟩ := h.g
  have h1 := gt_mono (x := x) (S := rB x c) (S' := rB m c) (fun y hy => rB_iff.2 (h.rch (rB_iff.1 hy))) r x.g.length
  rw [← gt_pre hg (rB m c) r x.g.length (Nat.le_refl _)] at h1
  have h2 := gt_up (x := m) (rB m c) r x.g.length t.length
  rw [hg, List.length_append]
  omega
theorem gt_reach {x : Rt} {c y : Int} (h : Rch x c y) (r : Int) : Di.gt x (rB x y) r x.g.length ≤ Di.gt x (rB x c) r x.g.length :=
  gt_mono (fun z hz => rB_iff.2 (h.trans (rB_iff.1 hz))) r _
theorem e3_mem {l : List T3} {j : Nat} (h : j < l.length) : e3 l j ∈ l := by
  unfold e3; rw [List.getD_eq_getElem?_getD, List.getElem?_eq_getElem h]; exact List.getElem_mem h
theorem e2_mem {l : List T2} {j : Nat} (h : j < l.length) : e2 l j ∈ l := by
  unfold e2; rw [List.getD_eq_getElem?_getD, List.getElem?_eq_getElem h]; exact List.getElem_mem h
theorem ok_of {x : Rt} (h1 : 0 ≤ x.c ∧ x.c ≤ 24) (h2 : 0 ≤ x.k ∧ x.k ≤ 24) (h3 : x.g.length ≤ 100) (h4 : x.s.length ≤ 100) (h5 : x.m.length ≤ 100) (hg : ∀ y ∈ x.g, okG3 x.c x.k y) (hs : ∀ y ∈ x.s, okS2 x.c x.k y) (hm : ∀ y ∈ x.m, okM2 x.c y) : Rok x :=
  ⟨h1.1, h1.2, h2.1, h2.2, h3, h4, h5, fun j hj => hg _ (e3_mem hj), fun j hj => hs _ (e2_mem hj), fun j hj => hm _ (e2_mem hj)⟩
theorem own_bx {w : World} {base e s n c : Nat} {A : Option Addr} {xs : List Value} (h : w.ownsRow base e s (.slice A n c) n xs) (h0 : 0 < n) :
    ∃ g l, A = some ⟨g, 0, none⟩ ∧ base ≤ g ∧ Bx w g l e ∧ n * s ≤ l.length ∧ l.take (n * s) = xs := by
  rcases h.2 with ⟨_, h1⟩ | ⟨g, cap, cur, e1, hb, hh, h2, _, h4, h5⟩
  · omega
  · injection e1 with e2 e3 e4
    refine ⟨g, cur.toList, e2, hb, by unfold Bx; simpa using hh, ?_, h5⟩
    rw [Array.length_toList, h4]
    exact Nat.mul_le_mul_right _ h2
theorem row_pre {w : World} {g e s n B : Nat} {l xs : List Value} (h : Bx w g l e) (hB : B ≤ g) (hl : n * s ≤ l.length) (ht : l.take (n * s) = xs) : Row w B s (some ⟨g, 0, none⟩) n xs := by
  subst ht
  refine ⟨by rw [List.length_take]; omega, fun _ => ⟨g, 0, rfl, hB, h.lt, fun j u hj => ?_⟩⟩
  have h1 : j < n * s := by
    have := (List.getElem?_eq_some_iff.1 hj).1
    rw [List.length_take] at this
    omega
  rw [List.getElem?_take_of_lt h1] at hj
  exact h.seg j u hj
theorem nth_pre {l : List Value} {ws : List Int} {k : Nat} (ht : l.take (ws.length * 1) = zv ws) (hk : k < ws.length) : nth l k = some (.int .i64 (e0 ws k)) := by
  rw [nth_get, ← List.getElem?_take_of_lt (show k < ws.length * 1 by omega), ht]
  exact zv_at ws k hk
theorem take_upd {l : List Value} {ws : List Int} {k : Nat} {z : Int} (ht : l.take (ws.length * 1) = zv ws) : (upd l k (.int .i64 z)).take (ws.length * 1) = zv (ws.set k z) := by
  rw [upd_set, List.take_set, ht]
  unfold zv
  rw [List.map_set]
theorem e0_set {ws : List Int} {k i : Nat} {z : Int} (hk : k < ws.length) : e0 (ws.set k z) i = if i = k then z else e0 ws i := by
  unfold e0
  rw [List.getD_eq_getElem?_getD, List.getD_eq_getElem?_getD, List.getElem?_set]
  by_cases h : k = i
  · subst h; simp [hk]
  · rw [if_neg h, if_neg (fun h2 => h h2.symm)]
theorem smW_up {p p' ws ws' : List Int} (n : Nat) (hp : ∀ i, i < n → 0 ≤ e0 p i ∧ e0 p i ≤ e0 p' i) (hw : ∀ i, i < n → 0 ≤ e0 ws i ∧ e0 ws i ≤ e0 ws' i) : ∀ k, k ≤ n → smW p ws k ≤ smW p' ws' k
  | 0, _ => Int.le_refl _
  | k + 1, h => by
    have h1 := smW_up n hp hw k (by omega)
    have h2 := hp k (by omega)
    have h3 := hw k (by omega)
    have h4 := Int.mul_le_mul h3.2 h2.2 h2.1 (Int.le_trans h3.1 h3.2)
    rw [smW, smW]
    omega
theorem Ext.pwr {x m : Rt} (h : Ext x m) (hk : m.k = x.k) (c : Int) {i : Nat} (hi : i < x.k.toNat) : e0 (pwr x c) i ≤ e0 (Di.pwr m c) i := by
  unfold Di.pwr
  rw [pw_at _ _ hi, pw_at _ _ (by rw [hk]; exact hi)]
  exact h.gt _
/-- Nothing of a severity is less. -/
theorem rt4_up {wo wo' au au' : Int} (h0 : 0 ≤ wo) (h1 : wo ≤ wo') (h2 : 0 ≤ au) (h3 : au ≤ au') : wo * au ≤ wo' * au' ∧ lvl (wo * au) ≤ lvl (wo' * au') := by
  have h := Int.mul_le_mul h1 h3 h2 (Int.le_trans h0 h1)
  exact ⟨h, lvl_up h⟩
theorem rate_yes2 (x : Rt) (v : Vr) (ws : List Int) (A : Option Addr) (cA : Nat) (c n : Int) (pb : Bool) (nl : Nat) (wo au : Int) (w : World) (h : RL w 0 x v) (hnl : nl = ws.length) (hl : Row w 0 1 A nl (zv ws)) (hok : Rok x) (hc : 0 ≤ c ∧ c < x.c) (hn : (ws.length : Int) = x.k) (hw : ∀ j, j < ws.length → 0 ≤ e0 ws j ∧ e0 ws j ≤ 100) (hr : 0 ≤ n ∧ n ≤ 24) (hT : Me w 0 0 TB)
    (hwo : smW (pwr x c) ws ws.length = wo) (hau : aud pb n = au) :
    Calls Tryd.prog 18 #[.agg (gr x v), .slice A nl cA, .int .i64 c, .int .i64 n, .bool pb] w fun e w' => e = .returned (.tuple #[.agg (List.toArray [.int .i64 (lvl (wo * au)), .int .i64 wo, .int .i64 au, .int .i64 (wo * au)]), .int .i64 0]) ∧ Below w.heap.size w w' := by
  subst hnl hwo hau
  exact rate_yes x v ws A cA c n pb w h hl hok hc hn hw hr hT
end Go.Proofs.YtahggnlmabdbbaaDoor.Di
