import Derived.Test.YtamcjhibdcbdnaaCAl
namespace Go.Proofs.Ytamcjhibdcbdnaa.Cl
open Go.RowKit
open Go.Proofs.Ytamcjhibdcbdnaa.Tp
set_option linter.unusedVariables false

theorem el_snoc : ∀ (l : List Ev) (x : Ev), el (l ++ [x]) = el l ++ [.int .i64 (x.k : Int), .int .i64 (x.i : Int), .int .i64 (x.q : Int), .int .i64 (x.b : Int)]
  | [], x => by simp [el]
  | y :: l, x => by simp [el, el_snoc l x]
theorem gd_left4 (l : List Ev) (x : Ev) (i : Nat) (h : i < l.length) : (l ++ [x]).getD i v0 = l.getD i v0 := by
  rw [List.getD_eq_getElem?_getD, List.getD_eq_getElem?_getD, List.getElem?_append_left h]
theorem gd_end4 (l : List Ev) (x : Ev) : (l ++ [x]).getD l.length v0 = x := by
  rw [List.getD_eq_getElem?_getD, List.getElem?_append_right (Nat.le_refl _)]
  simp
theorem rn_left (c : Cl) (l : List Ev) (x : Ev) : ∀ j, j ≤ l.length → rn c (l ++ [x]) j = rn c l j
  | 0, _ => rfl
  | j + 1, h => by rw [rn, rn, rn_left c l x j (by omega), gd_left4 l x j (by omega)]
theorem rn_end (c : Cl) (l : List Ev) (x : Ev) : rn c (l ++ [x]) (l ++ [x]).length = ap (rn c l l.length) x := by
  rw [show (l ++ [x]).length = l.length + 1 by simp, rn, rn_left c l x _ (Nat.le_refl _), gd_end4]

theorem RunK.left {c : Cl} {l : List Ev} {K : Nat} (h : RunK c l K) (hK : K < l.length) (x : Ev) : RunK c (l ++ [x]) K :=
  ⟨by simp; omega, fun j hj => by rw [rn_left c l x j (by omega), gd_left4 l x j (by omega)]; exact h.fit j hj, fun _ => by rw [rn_left c l x K (by omega), gd_left4 l x K hK]; exact h.stop hK⟩

/-- The events so far: all fit, and D is the cluster behind them, or one of them does not. -/
def EvL (c : Cl) (l : List Ev) (D : Cl) : Prop := (RunK c l l.length ∧ D = rn c l l.length) ∨ (∃ K, K < l.length ∧ RunK c l K)

theorem evl_fit {c D : Cl} {l : List Ev} {x : Ev} (h : EvL c l D) (hg : Good D x) (hf : fitB D x = true) : EvL c (l ++ [x]) (ap D x) := by
  rcases h with ⟨h1, rfl⟩ | ⟨K, hK, h1⟩
  · refine .inl ⟨⟨Nat.le_refl _, fun j hj => ?_, fun h => absurd h (Nat.lt_irrefl _)⟩, (rn_end c l x).symm⟩
    have hj' : j < l.length + 1 := by simpa using hj
    by_cases e : j = l.length
    · subst e
      rw [rn_left c l x _ (Nat.le_refl _), gd_end4]
      exact ⟨hg, hf⟩
    · rw [rn_left c l x j (by omega), gd_left4 l x j (by omega)]
      exact h1.fit j (by omega)
  · exact .inr ⟨K, by simp; omega, h1.left hK x⟩
theorem evl_bad {c D : Cl} {l : List Ev} {x : Ev} (h : EvL c l D) (hg : Good D x) (hf : fitB D x = false) : EvL c (l ++ [x]) D := by
  rcases h with ⟨h1, rfl⟩ | ⟨K, hK, h1⟩
  · refine .inr ⟨l.length, by simp, by simp, fun j hj => ?_, fun _ => ?_⟩
    · rw [rn_left c l x j (by omega), gd_left4 l x j hj]
      exact h1.fit j hj
    · rw [rn_left c l x _ (Nat.le_refl _), gd_end4]
      exact ⟨hg, hf⟩
  · exact .inr ⟨K, by simp; omega, h1.left hK x⟩
theorem evl_run {c D : Cl} {l : List Ev} (h : EvL c l D) : ∃ K, RunK c l K := by
  rcases h with ⟨h1, _⟩ | ⟨K, _, h1⟩
  · exact ⟨_, h1⟩
  · exact ⟨K, h1⟩

theorem Row.keep {W w6 : World} {B s n : Nat} {A : Option Addr} {xs : List Value} {row : Option Nat} (h : Row W B s A n xs) (hg : W.grownBy w6 row) (hn : ∀ g, row = some g → ∀ b off, 0 < n → A = some ⟨b, off, none⟩ → b ≠ g) : Row w6 B s A n xs :=
  ⟨h.len, fun h0 => by
    obtain ⟨b, off, e, hB, hlt, hc⟩ := h.mem h0
    refine ⟨b, off, e, hB, Nat.lt_of_lt_of_le hlt hg.size, fun j u hj => ?_⟩
    exact (World.cell?_of_block (w := W) (a := ⟨b, off + j, none⟩) (hg.block b hlt (fun e2 => hn b e2.symm b off h0 e rfl))).trans (hc j u hj)⟩
theorem CL.keep {W w6 : World} {B : Nat} {D : Cl} {u : Vl} {row : Option Nat} (h : CL W B D u) (hg : W.grownBy w6 row) (hn : ∀ g, row = some g → NQ g D u) : CL w6 B D u :=
  ⟨h.r1.keep hg (fun g e => (hn g e).n1), h.r2.keep hg (fun g e => (hn g e).n2), h.r3.keep hg (fun g e => (hn g e).n3)⟩

/-- The row that is told lies in no row of the cluster. -/
def NB (ov : Value) (D : Cl) (u : Vl) : Prop := ∀ g, ov.ownBlock = some g → NQ g D u
theorem nb_step {W : World} {B : Nat} {ov ov' : Value} {D : Cl} {u : Vl} (h : NB ov D u) (hc : CL W B D u) (ha : ov'.ownBlock = ov.ownBlock ∨ ov'.ownBlock = some W.heap.size) : NB ov' D u := by
  intro g hg
  rcases ha with e | e
  · exact h g (by rw [← e]; exact hg)
  · rw [hg] at e
    injection e with e
    exact NQ.of_size hc (by omega)
theorem nb_new {W W' : World} {B n : Nat} {ov : Value} {xs : List Value} {D : Cl} {u : Vl} (ho : W.ownsRow B 27 4 ov n xs) (hc : CL W' W.heap.size D u) : NB ov D u := by
  intro g hg
  exact NQ.of_base hc (ho.lt g hg).2

theorem gb_own {a b c : World} {T : Nat} {row : Option Nat} (h : a.grownBy b (some T)) (k : b.grownBy c row) (hr : ∀ g, row = some g → a.heap.size ≤ g) : a.grownBy c (some T) :=
  ⟨k.os.trans h.os, k.tape.trans h.tape, k.output.trans h.output, Nat.le_trans h.size k.size, fun i hi hne => (k.block i (Nat.lt_of_lt_of_le hi h.size) (fun e => by have := hr i e.symm; omega)).trans (h.block i hi hne)⟩

structure EsRel (w : World) (T m : Nat) (c : Cl) (l : List Ev) (k : Nat) (D : Cl) (u : Vl) (ov : Value) (wr : World) : Prop where
  row : wr.heap[w.heap.size]? = some (.cells (cv D u) 25 (0, 0))
  cl : CL wr (T + 1) D u
  nq : NQ w.heap.size D u
  nb : NB ov D u
  own : wr.ownsRow (w.heap.size + 1) 27 4 ov l.length (el l)
  gb : w.grownBy wr (some T)
  tp : TapeOk wr T
  ok : Ok (m + k) D
  ev : EvL c l D
  len : l.length ≤ k

def EsPost (T m n : Nat) (c : Cl) (w : World) (e : Ending) (w' : World) : Prop := ∃ (l : List Ev) (A : Option Addr) (cc : Nat), e = .returned (.slice A l.length cc) ∧ l.length ≤ n ∧ (∃ K, RunK c l K) ∧ Row w' w.heap.size 4 A l.length (el l) ∧ w.grownBy w' (some T) ∧ TapeOk w' T

theorem own_keepT {w w' : World} {base e s n T : Nat} {v : Value} {xs : List Value} (h : w.ownsRow base e s v n xs) (hg : w.grownBy w' (some T)) (hT : T < base) : w'.ownsRow base e s v n xs :=
  h.kept hg (by
    cases hv : v.ownBlock with
    | none => exact .inl rfl
    | some k => exact .inr (fun e => by have := (h.lt k hv).1; injection e; omega))

set_option maxRecDepth 100000 in
set_option maxHeartbeats 4000000 in
theorem events_any (T m B n : Nat) (c : Cl) (v : Vl) (w : World) (ht : TapeOk w T) (hT : T < w.heap.size) (h : CL w (T + 1) c v) (hok : Ok m c) (hm : m + n ≤ 80) :
    Calls Try.prog 26 #[.pointer (some ⟨T, 0, none⟩), .agg (cv c v), .int .i64 (n : Int)] w (EsPost T m n c w) := by
  have R0 := Lib.hid (heap_alloc_new w (.cells (cv c v) 25))
  have HB0 := Lib.hid (box_below w (.cells (cv c v) 25))
  have HT0 := Lib.hid (tape_new2 ht (.cells (cv c v) 25))
  have HC0 := Lib.hid (h.below HB0.out)
  have HQ0 := Lib.hid (NQ.of_size h (Nat.le_refl w.heap.size))
  have HG0 := Lib.hid (gb_row (gb_of_below (box_below w (.cells (cv c v) 25))) : w.grownBy _ (some T))
  have HOK := Lib.hid hok
  have hn80 : n ≤ 80 := by omega
  obtain ⟨i0, hi1, hz0, hz1, hz2⟩ := info_parts zinfo27
  have HI := Lib.hid hi1
  have HI0 := Lib.hid hz0
  have HI1 := Lib.hid hz1
  have HI2 := Lib.hid hz2
  clear hi1 hz0 hz1 hz2 h hok ht
  go_enter Try.func26, Try.ntmps26
  go_wp2_with fail
  go_loopw [7, 8] (fun ov ii wr => ∃ k : Nat, k ≤ n ∧ ii = .int .i64 k ∧ ∃ l D u, EsRel w T m c l k D u ov wr) (fun _ ii _ => n - (intOf ii).toNat)
  case atStart => exact ⟨0, by omega, rfl, [], c, v, R0.out, HC0.out, HQ0.out, (fun g e => by cases e), own_nil _ _ _ _, HG0.out, HT0.out, HOK.out, .inl ⟨⟨by simp, fun j hj => absurd hj (by simp), fun h => absurd h (by simp)⟩, rfl⟩, by simp⟩
  case round =>
    obtain ⟨k, hk, rfl, l, D, u, hrow, hcl, hnq, hnb, hown, hgb, htp, hok, hev, hlen⟩ := hrel
    have HROW := Lib.hid hrow
    have HCL := Lib.hid hcl
    have HNQ := Lib.hid hnq
    have HNB := Lib.hid hnb
    have HOWN := Lib.hid hown
    have HGB := Lib.hid hgb
    have HTP := Lib.hid htp
    have HOKK := Lib.hid hok
    have HEV := Lib.hid hev
    have lq := row_lt hrow
    clear hrow hcl hnq hnb hown hgb htp hok hev
    by_cases hlt : k < n
    · obtain ⟨c0, c1, c2, c3⟩ := cvCells _ _ _ _ _ _ HROW.out
      have i1 : (k : Int) < (n : Int) := by omega
      go_wp2_with fail
      refine (event_x HTP.out (by omega) HOKK.out (by omega)).mono ?_
      rintro e w2 ⟨x, hgx, rfl, hg2, ht2⟩
      have Q2 := Lib.hid ((hg2.block w.heap.size lq (by simp; omega)).trans HROW.out)
      have HC2 := Lib.hid (HCL.out.grown hg2 (fun g e => by cases e; exact Nat.lt_succ_self _))
      have HG2 := Lib.hid (gb_trans HGB.out hg2)
      have HO2 := Lib.hid (own_keepT HOWN.out hg2 (by omega))
      have HT2 := Lib.hid ht2
      have HGX := Lib.hid hgx
      have l2 : w.heap.size < w2.heap.size := row_lt Q2.out
      clear hg2 ht2 hgx c0 c1 c2 c3
      have EY := heap_alloc_new w2 (.cells (ec x.k x.i x.q x.b) 27)
      have hbE : Below w2.heap.size w2 (w2.alloc (.cells (ec x.k x.i x.q x.b) 27)) := box_below _ _
      have E3 := Lib.hid EY
      have Q3 := Lib.hid ((hbE.block w.heap.size l2).trans Q2.out)
      have HC3 := Lib.hid (HC2.out.below hbE)
      have HG3 := Lib.hid (gb_trans HG2.out (gb_row (gb_of_below hbE)))
      have HO3 := Lib.hid (own_below HO2.out hbE)
      have HT3 := Lib.hid (tape_below HT2.out hbE)
      have l3 := row_lt EY
      clear hbE EY
      generalize hW3 : w2.alloc (.cells (ec x.k x.i x.q x.b) 27) = W3 at *
      have HW3 := Lib.hid hW3
      clear hW3
      obtain ⟨c0, c1, c2, c3⟩ := cvCells _ _ _ _ _ _ Q3.out
      obtain ⟨y0, y1, y2, y3⟩ := ecCells E3.out
      go_wp2_with (with_reducible (show wpList _ _ _ (⟨none, .store 27 (.tmp 9) (.tmp 19), _, _, _, _⟩ :: _) _ _); refine wpList_store_row (o := ⟨none, .store 27 (.tmp 9) (.tmp 19), _, _, _, _⟩) rfl 27 (.tmp 9) (.tmp 19) rfl w2.heap.size (ec x.k x.i x.q x.b) rfl rfl 27 (ec 0 0 0 0) (heap_alloc_new _ _) (info27 _ _ _ _) rfl (ec_one _ _ _ _) ?_; rw [new_set, HW3.out])
      clear c0 c1 c2 c3 y0 y1 y2 y3
      refine (refapply_x HC3.out HOKK.out HGX.out (by omega)).mono ?_
      rintro e w4 (⟨hfit, v', rfl, hc4, hb4⟩ | ⟨hfit, rfl, hb4⟩)
      · have HFIT := Lib.hid hfit
        have HEV2 := Lib.hid (evl_fit HEV.out HGX.out hfit)
        have HOK2 := Lib.hid (ok_ap HOKK.out HGX.out hfit)
        have hbx := box_below w4 (.cells (cv (ap D x) v') 25)
        have hbb := hb4.trans (hbx.mono hb4.size)
        have Q5 := Lib.hid ((hbb.block _ (row_lt Q3.out)).trans Q3.out)
        have E5 := Lib.hid ((hbb.block _ (row_lt E3.out)).trans E3.out)
        have N5 := Lib.hid (heap_alloc_new w4 (.cells (cv (ap D x) v') 25))
        have HC5 := Lib.hid (hc4.below hbx)
        have HG5 := Lib.hid (gb_trans HG3.out (gb_row (gb_of_below hbb)))
        have HO5 := Lib.hid (own_below HO3.out hbb)
        have HT5 := Lib.hid (tape_below HT3.out hbb)
        have HNB5 := Lib.hid (nb_new HO3.out hc4)
        have l4 := hb4.size
        have l5 : w4.heap.size < (w4.alloc (.cells (cv (ap D x) v') 25)).heap.size := row_lt N5.out
        clear hbx hbb hc4 hb4 hfit
        generalize ap D x = D2 at *
        generalize hW5 : w4.alloc (.cells (cv D2 v') 25) = W5 at *
        have HW5 := Lib.hid hW5
        clear hW5
        obtain ⟨y0, y1, y2, y3⟩ := ecCells E5.out
        have hss : w.heap.size + 1 ≤ W5.heap.size := row_lt Q5.out
        have EN := heap_alloc_new W5 (.cells (ec x.k x.i x.q x.b) 27)
        have hbN : Below W5.heap.size W5 (W5.alloc (.cells (ec x.k x.i x.q x.b) 27)) := box_below _ _
        have HO6 := Lib.hid (own_below HO5.out hbN)
        have NEWS := Lib.hid (show ∀ j u, [Value.int .i64 (x.k : Int), .int .i64 (x.i : Int), .int .i64 (x.q : Int), .int .i64 (x.b : Int)][j]? = some u → (W5.alloc (.cells (ec x.k x.i x.q x.b) 27)).cell? ((⟨W5.heap.size, 0, none⟩ : Addr).add j) = some u from World.news_of_block EN)
        have N6 := Lib.hid ((hbN.block _ (row_lt N5.out)).trans N5.out)
        have Q6 := Lib.hid ((hbN.block _ (row_lt Q5.out)).trans Q5.out)
        have HC6 := Lib.hid (HC5.out.below hbN)
        have HG6 := Lib.hid (gb_trans HG5.out (gb_row (gb_of_below hbN)))
        have HT6 := Lib.hid (tape_below HT5.out hbN)
        have lq6 := row_lt Q6.out
        have ln6 := row_lt N6.out
        clear hbN EN
        go_wp2_with (first
          | (with_reducible (show wpList _ _ _ (⟨none, .store 25 (.tmp 10) (.tmp 24), _, _, _, _⟩ :: _) _ _); refine wpList_store_row (o := ⟨none, .store 25 (.tmp 10) (.tmp 24), _, _, _, _⟩) rfl 25 (.tmp 10) (.tmp 24) rfl w4.heap.size (cv D2 v') rfl rfl 25 zC (heap_alloc_new _ _) (info25 _ _) rfl (cv_one _ _) ?_; rw [new_set, HW5.out])
          | (at_builtin; refine wpList_append_own_at _ rfl (.tmp 33) (.tmp 35) 28 rfl (w.heap.size + 1) 27 i0 (.agg #[.int .i64 0, .int .i64 0, .int .i64 0, .int .i64 0]) 4 32 Try.underlying28 HI.out HI0.out HI1.out HI2.out rfl (by decide) _ l.length (el l) rfl HO6.out ⟨W5.heap.size, 0, none⟩ 1 1 _ rfl rfl NEWS.out (by simp [Value.oneCell']) (by unfold maxLen; omega) (by omega) (by simp; omega) ?_; intro ov' w7 hown hgr _ hat; have HO7 := Lib.hid hown; have hge : ∀ g, _ = some g → w.heap.size + 1 ≤ g := (fun g e => (HO3.out.lt g e).1); have Q7 := Lib.hid ((hgr.block w.heap.size lq6 (fun e => by have := hge _ e.symm; omega)).trans Q6.out); have N7 := Lib.hid ((hgr.block w4.heap.size ln6 (fun e => by have := (HO3.out.lt _ e.symm).2; omega)).trans N6.out); have HC7 := Lib.hid (HC6.out.keep hgr HNB5.out); have HNB7 := Lib.hid (nb_step HNB5.out HC6.out hat); have HG7 := Lib.hid (gb_own HG6.out hgr (fun g e => by have := hge g e; omega)); have HT7 := Lib.hid (tape_kept HT6.out hgr (fun g e => by have := hge g e; omega)); clear hown hgr hat hge)
          | (with_reducible (show wpList _ _ _ (⟨some 39, .load 25 (.tmp 10), _, _, _, _⟩ :: _) _ _); refine wpList_load_row (o := ⟨some 39, .load 25 (.tmp 10), _, _, _, _⟩) rfl 25 (.tmp 10) rfl w4.heap.size rfl 25 (cv D2 v') (0, 0) _ N7.out Try.underlying25 rfl (info25 _ _) ?_)
          | (with_reducible (show wpList _ _ _ (⟨none, .store 25 (.tmp 4) (.tmp 39), _, _, _, _⟩ :: _) _ _); refine wpList_store_row (o := ⟨none, .store 25 (.tmp 4) (.tmp 39), _, _, _, _⟩) rfl 25 (.tmp 4) (.tmp 39) rfl w.heap.size (cv D2 v') rfl rfl 25 (cv D u) Q7.out (info25 _ _) rfl (cv_one _ _) ?_))
        have HSN := el_snoc l x
        have HS9 := setRow_heap _ _ _ (cv D2 v') _ _ Q7.out
        have hc9 := HC7.out.set (show w.heap.size < W3.heap.size by omega) (cv D2 v')
        have hlx : (l ++ [x]).length = l.length + 1 := by simp
        exact ⟨⟨k + 1, by omega, by go_num, l ++ [x], D2, v', HS9, hc9.base (by omega), NQ.of_base hc9 (by omega), HNB7.out, by rw [HSN, hlx]; exact own_set HO7.out (Nat.lt_succ_self _) _, gb_far HG7.out (Nat.le_refl _) _, tape_set HT7.out hT _, HOK2.out, HEV2.out, by rw [hlx]; omega⟩, by simp [intOf]; omega⟩
      · have HEV2 := Lib.hid (evl_bad HEV.out HGX.out hfit)
        have hbx := box_below w4 (.cells zC 25)
        have hbb := hb4.trans (hbx.mono hb4.size)
        have Q5 := Lib.hid ((hbb.block _ (row_lt Q3.out)).trans Q3.out)
        have E5 := Lib.hid ((hbb.block _ (row_lt E3.out)).trans E3.out)
        have HC5 := Lib.hid (HC3.out.below hbb)
        have HG5 := Lib.hid (gb_trans HG3.out (gb_row (gb_of_below hbb)))
        have HO5 := Lib.hid (own_below HO3.out hbb)
        have HT5 := Lib.hid (tape_below HT3.out hbb)
        have l4 := hb4.size
        have l5 : w4.heap.size < (w4.alloc (.cells zC 25)).heap.size := by simp
        clear hbx hbb hb4 hfit
        generalize hW5 : w4.alloc (.cells zC 25) = W5 at *
        have HW5 := Lib.hid hW5
        clear hW5
        go_wp2_with (with_reducible (show wpList _ _ _ (⟨none, .store 25 (.tmp 10) (.tmp 24), _, _, _, _⟩ :: _) _ _); refine wpList_store_row (o := ⟨none, .store 25 (.tmp 10) (.tmp 24), _, _, _, _⟩) rfl 25 (.tmp 10) (.tmp 24) rfl w4.heap.size zC rfl rfl 25 zC (heap_alloc_new _ _) infoz rfl zc_one ?_; rw [new_set, HW5.out])
        refine (next_any T 6 _ HT5.out (by omega) (by omega)).mono ?_
        rintro e w6 ⟨r, hr0, hr1, rfl, hg6, ht6⟩
        have Q6 := Lib.hid ((hg6.block _ (row_lt Q5.out) (by simp; omega)).trans Q5.out)
        have E6 := Lib.hid ((hg6.block _ (row_lt E5.out) (by simp; omega)).trans E5.out)
        have HC6 := Lib.hid (HC5.out.grown hg6 (fun g e => by cases e; exact Nat.lt_succ_self _))
        have HG6 := Lib.hid (gb_trans HG5.out hg6)
        have HO6 := Lib.hid (own_keepT HO5.out hg6 (by omega))
        have HT6 := Lib.hid ht6
        clear hg6 ht6
        by_cases hr : 0 < r
        · go_wp2_with fail
          exact ⟨⟨k + 1, by omega, by go_num, l, D, u, Q6.out, HC6.out, HNQ.out, HNB.out, HO6.out, HG6.out, HT6.out, HOKK.out.mono (by omega), HEV.out, by omega⟩, by simp [intOf]; omega⟩
        · have hr' : r ≤ 0 := by omega
          obtain ⟨y0, y1, y2, y3⟩ := ecCells E6.out
          have HO5' := HO5
          have Q5' := Q5
          clear Q5 HC5 HG5 HO5 HT5 HO5' Q5'
          have HNB5 := Lib.hid HNB.out
          have Q5 := Q6
          have HC5 := HC6
          have HG5 := HG6
          have HO5 := HO6
          have HT5 := HT6
          clear Q6 HC6 HG6 HO6 HT6
          generalize w6 = W5 at *
          have hss : w.heap.size + 1 ≤ W5.heap.size := row_lt Q5.out
          have EN := heap_alloc_new W5 (.cells (ec x.k x.i x.q x.b) 27)
          have hbN : Below W5.heap.size W5 (W5.alloc (.cells (ec x.k x.i x.q x.b) 27)) := box_below _ _
          have HO6 := Lib.hid (own_below HO5.out hbN)
          have NEWS := Lib.hid (show ∀ j u, [Value.int .i64 (x.k : Int), .int .i64 (x.i : Int), .int .i64 (x.q : Int), .int .i64 (x.b : Int)][j]? = some u → (W5.alloc (.cells (ec x.k x.i x.q x.b) 27)).cell? ((⟨W5.heap.size, 0, none⟩ : Addr).add j) = some u from World.news_of_block EN)
          have Q6 := Lib.hid ((hbN.block _ (row_lt Q5.out)).trans Q5.out)
          have HC6 := Lib.hid (HC5.out.below hbN)
          have HG6 := Lib.hid (gb_trans HG5.out (gb_row (gb_of_below hbN)))
          have HT6 := Lib.hid (tape_below HT5.out hbN)
          have lq6 := row_lt Q6.out
          clear hbN EN
          go_wp2_with (at_builtin; refine wpList_append_own_at _ rfl (.tmp 33) (.tmp 35) 28 rfl (w.heap.size + 1) 27 i0 (.agg #[.int .i64 0, .int .i64 0, .int .i64 0, .int .i64 0]) 4 32 Try.underlying28 HI.out HI0.out HI1.out HI2.out rfl (by decide) _ l.length (el l) rfl HO6.out ⟨W5.heap.size, 0, none⟩ 1 1 _ rfl rfl NEWS.out (by simp [Value.oneCell']) (by unfold maxLen; omega) (by omega) (by simp; omega) ?_; intro ov' w7 hown hgr _ hat; have HO7 := Lib.hid hown; have hge : ∀ g, _ = some g → w.heap.size + 1 ≤ g := (fun g e => (HO3.out.lt g e).1); have Q7 := Lib.hid ((hgr.block w.heap.size lq6 (fun e => by have := hge _ e.symm; omega)).trans Q6.out); have HC7 := Lib.hid (HC6.out.keep hgr HNB5.out); have HNB7 := Lib.hid (nb_step HNB5.out HC6.out hat); have HG7 := Lib.hid (gb_own HG6.out hgr (fun g e => by have := hge g e; omega)); have HT7 := Lib.hid (tape_kept HT6.out hgr (fun g e => by have := hge g e; omega)); clear hown hgr hat hge)
          have HSN := el_snoc l x
          have hlx : (l ++ [x]).length = l.length + 1 := by simp
          exact ⟨⟨k + 1, by omega, by go_num, l ++ [x], D, u, Q7.out, HC7.out, HNQ.out, HNB7.out, by rw [HSN, hlx]; exact HO7.out, HG7.out, HT7.out, HOKK.out.mono (by omega), HEV2.out, by rw [hlx]; omega⟩, by simp [intOf]; omega⟩
    · obtain rfl : k = n := by omega
      obtain ⟨A, cc, rfl⟩ := own_form HOWN.out
      go_wp2_with fail
      go_ret
      exact ⟨l, A, cc, rfl, hlen, evl_run HEV.out, (row_of_own HOWN.out).base (Nat.le_succ _), HGB.out, HTP.out⟩

end Go.Proofs.Ytamcjhibdcbdnaa.Cl
