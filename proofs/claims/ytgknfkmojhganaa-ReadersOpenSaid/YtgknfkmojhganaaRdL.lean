import Derived.Test.YtgknfkmojhganaaRdK
namespace Go.Proofs.Ytgknfkmojhganaa.Di
open Go.RowKit
open Go.Proofs.Ytgknfkmojhganaa.Tp
set_option linter.unusedVariables false
set_option linter.unusedSimpArgs false

/-- An event that closes a place. -/
def unB (l : List Ac) (P t : Int) (i : Nat) : Bool := (ag l i).k == 4 && (ag l i).p == P && decide ((ag l i).t ≤ t)
/-- An event that opens a place. -/
def lnB (l : List Ac) (P t : Int) (i : Nat) : Bool := (ag l i).k == 3 && (ag l i).p == P && decide ((ag l i).t ≤ t) && decide (t < (ag l i).u)
/-- Is a place open by a link? -/
def opB (l : List Ac) (P t : Int) (i : Nat) : Bool := lnB l P t i && !anyB (fun x => unB l P t (i + 1 + x)) (l.length - (i + 1))
theorem un_iff {l : List Ac} {P t : Int} {i : Nat} : unB l P t i = true ↔ (ag l i).k = 4 ∧ (ag l i).p = P ∧ (ag l i).t ≤ t := by
  unfold unB; simp [and_assoc]
theorem ln_iff {l : List Ac} {P t : Int} {i : Nat} : lnB l P t i = true ↔ (ag l i).k = 3 ∧ (ag l i).p = P ∧ (ag l i).t ≤ t ∧ t < (ag l i).u := by
  unfold lnB; simp [and_assoc]
theorem lk_open (l : List Ac) (P t : Int) : ∀ K, (lk l P t K).isSome = true ↔ ∃ i, i < K ∧ lnB l P t i = true ∧ ∀ j, i < j → j < K → ¬ unB l P t j = true
  | 0 => by simp [lk]
  | K + 1 => by
    have ih := lk_open l P t K
    simp only [ln_iff, un_iff] at ih ⊢
    rw [lk]
    by_cases c1 : t < (ag l K).t ∨ (ag l K).p ≠ P
    · rw [if_pos c1, ih]
      constructor
      · rintro ⟨i, h1, h2, h3⟩
        refine ⟨i, by omega, h2, fun j h4 h5 => ?_⟩
        by_cases e : j = K
        · subst e
          rintro ⟨-, h6, h7⟩
          rcases c1 with c1 | c1
          · omega
          · exact c1 h6
        · exact h3 j h4 (by omega)
      · rintro ⟨i, h1, h2, h3⟩
        by_cases e : i = K
        · subst e
          rcases c1 with c1 | c1
          · omega
          · exact absurd h2.2.1 c1
        · exact ⟨i, by omega, h2, fun j h4 h5 => h3 j h4 (by omega)⟩
    · rw [if_neg c1]
      have c2 : (ag l K).p = P := Classical.not_not.1 (fun h => c1 (.inr h))
      have c3 : (ag l K).t ≤ t := Int.not_lt.1 (fun h => c1 (.inl h))
      by_cases c4 : (ag l K).k = 4
      · rw [if_pos c4]
        constructor
        · intro h; simp at h
        · rintro ⟨i, h1, h2, h3⟩
          by_cases e : i = K
          · subst e; omega
          · exact absurd ⟨c4, c2, c3⟩ (h3 K (by omega) (by omega))
      · rw [if_neg c4]
        by_cases c5 : (ag l K).k = 3 ∧ t < (ag l K).u
        · rw [if_pos c5]
          exact ⟨fun _ => ⟨K, by omega, ⟨c5.1, c2, c3, c5.2⟩, fun j h1 h2 => by omega⟩, fun _ => rfl⟩
        · rw [if_neg c5, ih]
          constructor
          · rintro ⟨i, h1, h2, h3⟩
            refine ⟨i, by omega, h2, fun j h4 h5 => ?_⟩
            by_cases e : j = K
            · subst e
              exact fun h => c4 h.1
            · exact h3 j h4 (by omega)
          · rintro ⟨i, h1, h2, h3⟩
            by_cases e : i = K
            · subst e
              exact absurd ⟨h2.1, h2.2.2.2⟩ c5
            · exact ⟨i, by omega, h2, fun j h4 h5 => h3 j h4 (by omega)⟩
theorem op_iff {l : List Ac} {P t : Int} {i : Nat} (hi : i < l.length) : opB l P t i = true ↔ lnB l P t i = true ∧ ∀ j, i < j → j < l.length → ¬ unB l P t j = true := by
  unfold opB
  rw [Bool.and_eq_true, Bool.not_eq_true', ← Bool.not_eq_true, any_iff]
  constructor
  · rintro ⟨h1, h2⟩
    refine ⟨h1, fun j h3 h4 h5 => h2 ⟨j - (i + 1), by omega, ?_⟩⟩
    show unB l P t (i + 1 + (j - (i + 1))) = true
    rw [show i + 1 + (j - (i + 1)) = j by omega]
    exact h5
  · rintro ⟨h1, h2⟩
    refine ⟨h1, ?_⟩
    rintro ⟨x, h3, h4⟩
    exact h2 (i + 1 + x) (by omega) (by omega) h4
theorem lk_isopen (l : List Ac) (P t : Int) : (lkA l P t).isSome = anyB (opB l P t) l.length := by
  rw [Bool.eq_iff_iff, any_iff]
  unfold lkA
  rw [lk_open]
  constructor
  · rintro ⟨i, h1, h2⟩
    exact ⟨i, h1, (op_iff h1).2 h2⟩
  · rintro ⟨i, h1, h2⟩
    exact ⟨i, h1, (op_iff h1).1 h2⟩
set_option maxRecDepth 100000 in
set_option maxHeartbeats 4000000 in
/-- The reference's Open. -/
theorem open_any (a : Es) (v : Ve) (P t : Int) (k : Nat) (w : World) (h : EL w 0 a v) (hok : Eok a) (hP : 0 ≤ P ∧ P < a.n) (hk : k < a.e.length) (hc : a.e.length ≤ v.c) :
    Calls Try.prog 48 #[.agg (ge a v), .int .i64 P, .int .i64 (k : Int), .int .i64 t] w fun e w' => e = .returned (.bool (opB a.e P t k)) ∧ Below w.heap.size w w' := by
  obtain ⟨A, vc⟩ := v
  simp only at hc
  have hm := hok.m
  have HB0 := Lib.hid (box_below w (.cells (ge a ⟨A, vc⟩) 33))
  have R0 := Lib.hid (heap_alloc_new w (.cells (ge a ⟨A, vc⟩) 33))
  obtain ⟨c0, c1⟩ := geCells R0.out
  have HPL := Lib.hid (place_yes a ⟨A, vc⟩ P _ (vay_of (Row.below h HB0.out) hok) ⟨hok.n1, hok.n16⟩ hP)
  have HF := Lib.hid (show (#[.int .i64 a.n, .slice A a.e.length vc] : Array Value) = ge a ⟨A, vc⟩ from rfl)
  have HE := Lib.hid h
  have lR := row_lt R0.out
  have hw1 : IntKind.i64.wrap ((a.e.length : Int) - 1) = (a.e.length : Int) - 1 := IntWalk.i64_in _ (by omega)
  obtain ⟨f, hf⟩ : ∃ f, k + 1 = f := ⟨_, rfl⟩
  have hw2 : (k : Int) + 1 = (f : Int) := by omega
  have hw3 : IntKind.i64.wrap (f : Int) = (f : Int) := IntWalk.i64_in _ (by omega)
  obtain ⟨o, ho⟩ : ∃ o, opB a.e P t k = o := ⟨_, rfl⟩
  rw [ho]
  unfold opB lnB at ho
  rw [hf] at ho
  have i0 : (0 : Int) ≤ (k : Int) := by omega
  have i1 : (k : Int) < (a.e.length : Int) := by omega
  obtain ⟨x, hx⟩ : ∃ x, ag a.e k = x := ⟨_, rfl⟩
  rw [hx] at ho
  obtain ⟨xt, xk, xp, xr, xu, xc, xf⟩ := x
  simp only at ho
  have HO := Lib.hid ho
  have HFK := Lib.hid hf
  have HXX := Lib.hid hx
  clear h hok hP hf ho hx
  go_enter Try.func48, Try.ntmps48
  go_upto_region 4 with (first
    | (go_at_call 49; rw [HF.out]; refine HPL.out.mono ?_; rintro e w1 ⟨rfl, hb1⟩; have B1 := Lib.hid (HB0.out.trans (hb1.mono HB0.out.size)); have R1 := Lib.hid ((hb1.block _ lR).trans R0.out); clear hb1 c0 c1; obtain ⟨c0, c1⟩ := geCells R1.out; obtain ⟨b, off, hA, -, hbk, hac⟩ := Row.ac (Row.below HE.out B1.out) hk; have hA : A = some ⟨b, off, none⟩ := hA; subst hA; rw [HXX.out] at hac; obtain ⟨y0, y1, y2, y3, y4, y5, y6⟩ := hac; simp only at y0 y1 y2 y3 y4 y5 y6)
    | (go_at_call 82; (with_reducible refine (in_yes (by omega) (by omega) _).mono ?_); rintro e w1 ⟨rfl, rfl⟩))
  have hbx := box_below w1 (.cells #[.int .i64 xt, .int .i64 xk, .int .i64 xp, .int .i64 xr, .int .i64 xu, .int .i64 xc, .int .i64 xf] 57)
  have BX := Lib.hid (B1.out.trans (hbx.mono B1.out.size))
  have XN := Lib.hid (heap_alloc_new w1 (.cells #[.int .i64 xt, .int .i64 xk, .int .i64 xp, .int .i64 xr, .int .i64 xu, .int .i64 xc, .int .i64 xf] 57))
  have RX := Lib.hid ((hbx.block _ (row_lt R1.out)).trans R1.out)
  have R1' := R1.out
  clear R1' c0 c1 y0 y1 y2 y3 y4 y5 y6 hbx
  have hbk2 : b < (w1.alloc (.cells #[.int .i64 xt, .int .i64 xk, .int .i64 xp, .int .i64 xr, .int .i64 xu, .int .i64 xc, .int .i64 xf] 57)).heap.size := by simp; omega
  obtain ⟨n0, n1, n2, n3, n4, n5, n6⟩ := accCells (x := ⟨xt, xk, xp, xr, xu, xc, xf⟩) XN.out
  simp only at n0 n1 n2 n3 n4 n5 n6
  generalize w1.alloc (.cells #[.int .i64 xt, .int .i64 xk, .int .i64 xp, .int .i64 xr, .int .i64 xu, .int .i64 xc, .int .i64 xf] 57) = W1 at *
  generalize w1.heap.size = Q1 at *
  obtain ⟨c0, c1⟩ := geCells RX.out
  by_cases h3 : xk = 3
  · have e1 : (xk != 3) = false := by rw [h3]; rfl
    by_cases h4 : xp = P
    · have e2 : (xp != P) = false := by rw [h4]; simp
      by_cases h5 : t < xt
      · have e3 : decide (t < xt) = true := decide_eq_true h5
        obtain rfl : o = false := by rw [← HO.out, decide_eq_false (show ¬ xt ≤ t by omega)]; simp
        clear h3 h4 h5
        go_wp2_with fail
        go_ret
        exact ⟨rfl, BX.out⟩
      · have e3 : decide (t < xt) = false := decide_eq_false h5
        by_cases h6 : xu ≤ t
        · have e4 : decide (xu ≤ t) = true := decide_eq_true h6
          obtain rfl : o = false := by rw [← HO.out, decide_eq_false (show ¬ t < xu by omega)]; simp
          clear h3 h4 h5 h6
          go_wp2_with fail
          go_ret
          exact ⟨rfl, BX.out⟩
        · have e4 : decide (xu ≤ t) = false := decide_eq_false h6
          have HOA := Lib.hid (show o = !anyB (fun x => unB a.e P t (f + x)) (a.e.length - f) by rw [← HO.out, decide_eq_true (show xt ≤ t by omega), decide_eq_true (show t < xu by omega), h3, h4]; simp)
          clear h3 h4 h5 h6 HO
          by_cases hcf : vc = f
          · obtain rfl : o = true := by rw [HOA.out, show a.e.length - f = 0 by omega]; rfl
            obtain ⟨n, hn⟩ : ∃ n, a.e.length = n := ⟨_, rfl⟩
            have hnf : n = f := by omega
            subst hnf
            subst hcf
            have hz : (vc : Int) - (vc : Int) = 0 := by omega
            go_wp2_with fail
            go_loopw [57] (fun jj wr => jj = .int .i64 0 ∧ W1 = wr) (fun _ _ => 0)
            case atStart => exact ⟨rfl, rfl⟩
            case round =>
              obtain ⟨rfl, rfl⟩ := hrel
              go_wp2_with fail
              go_ret
              exact ⟨rfl, BX.out⟩
          · have hcf2 : ¬ (vc : Int) = (f : Int) := by omega
            go_wp2_with fail
            have HAC := Lib.hid (fun wr (hb : Below W1.heap.size W1 wr) j (hj : f + j < a.e.length) => Row.ac (i := f + j) (Row.below HE.out (BX.out.trans (hb.mono BX.out.size))) hj)
            have RX2 := RX.out
            have lQX := row_lt RX2
            clear RX2 c0 c1 n0 n1 n2 n3 n4 n5 n6
            obtain ⟨LN, hLN⟩ : ∃ LN, a.e.length - f = LN := ⟨_, rfl⟩
            rw [hLN] at HOA ⊢
            go_loopw [57] (fun jj wr => ∃ j : Nat, j ≤ LN ∧ jj = .int .i64 (j : Int) ∧ anyB (fun x => unB a.e P t (f + x)) j = false ∧ Below W1.heap.size W1 wr) (fun jj _ => LN - (intOf jj).toNat)
            case atStart => exact ⟨0, by omega, rfl, rfl, Below.refl _ _⟩
            case round =>
              obtain ⟨j, hj, rfl, hun, hbl⟩ := hrel
              have HBL := Lib.hid hbl
              have HUN := Lib.hid hun
              by_cases hlt : j < LN
              · obtain ⟨b', off', hA', -, hbk', hac⟩ := HAC.out _ hbl j (by omega)
                injection hA' with hA'
                injection hA' with hA1 hA2
                subst hA1
                obtain rfl : off = off' := hA2
                obtain ⟨y0, y1, y2, y3, y4, y5, y6⟩ := hac
                rw [show off + (f + j) * 7 = off + f * 7 + j * 7 by omega] at y0 y1 y2 y3 y4 y5 y6
                have hus := (show anyB (fun x => unB a.e P t (f + x)) (j + 1) = (anyB (fun x => unB a.e P t (f + x)) j || unB a.e P t (f + j)) from rfl)
                rw [hun, Bool.false_or] at hus
                have HUS := Lib.hid hus
                have HUB := Lib.hid (show unB a.e P t (f + j) = ((ag a.e (f + j)).k == 4 && (ag a.e (f + j)).p == P && decide ((ag a.e (f + j)).t ≤ t)) from rfl)
                have HUL := Lib.hid (show unB a.e P t (f + j) = true → o = false from fun h => by rw [HOA.out, (any_iff _ _).2 ⟨j, hlt, h⟩]; rfl)
                generalize unB a.e P t (f + j) = ub at *
                generalize ag a.e (f + j) = x at *
                obtain ⟨zt, zk, zp, zr, zu, zc, zf⟩ := x
                have hub := HUB.out
                simp only at y0 y1 y2 y3 y4 y5 y6 hub
                have HUB := Lib.hid hub
                have hbx := box_below wr (.cells #[.int .i64 zt, .int .i64 zk, .int .i64 zp, .int .i64 zr, .int .i64 zu, .int .i64 zc, .int .i64 zf] 57)
                have BZ := Lib.hid (hbl.trans (hbx.mono hbl.size))
                have XZ := Lib.hid (heap_alloc_new wr (.cells #[.int .i64 zt, .int .i64 zk, .int .i64 zp, .int .i64 zr, .int .i64 zu, .int .i64 zc, .int .i64 zf] 57))
                obtain ⟨n0, n1, n2, n3, n4, n5, n6⟩ := accCells (x := ⟨zt, zk, zp, zr, zu, zc, zf⟩) XZ.out
                simp only at n0 n1 n2 n3 n4 n5 n6
                have j0 : (0 : Int) ≤ (j : Int) := by omega
                have j1 : (j : Int) < (LN : Int) := by omega
                have hj120 : j ≤ 120 := by omega
                clear hun hbl hus hub hbx
                by_cases g1 : zk = 4
                · have d1 : (zk == 4) = true := by rw [g1]; rfl
                  by_cases g2 : zp = P
                  · have d2 : (zp == P) = true := by rw [g2]; simp
                    by_cases g3 : zt ≤ t
                    · have d3 : decide (zt ≤ t) = true := decide_eq_true g3
                      obtain rfl : o = false := HUL.out (by rw [HUB.out, d1, d2, d3]; rfl)
                      have BF := Lib.hid (BX.out.trans (BZ.out.mono BX.out.size))
                      clear g1 g2 g3
                      go_wp2_with fail
                      go_ret
                      exact ⟨rfl, BF.out⟩
                    · have d3 : decide (zt ≤ t) = false := decide_eq_false g3
                      have HU0 := Lib.hid (show ub = false by rw [HUB.out, d3]; simp)
                      clear g1 g2 g3
                      go_wp2_with fail
                      exact ⟨⟨j + 1, by omega, by go_num, by rw [HUS.out, HU0.out], BZ.out⟩, by simp [intOf]; omega⟩
                  · have d2 : (zp == P) = false := beq_eq_false_iff_ne.2 g2
                    have HU0 := Lib.hid (show ub = false by rw [HUB.out, d2]; simp)
                    clear g1 g2
                    go_wp2_with fail
                    exact ⟨⟨j + 1, by omega, by go_num, by rw [HUS.out, HU0.out], BZ.out⟩, by simp [intOf]; omega⟩
                · have d1 : (zk == 4) = false := beq_eq_false_iff_ne.2 g1
                  have HU0 := Lib.hid (show ub = false by rw [HUB.out, d1]; rfl)
                  clear g1
                  go_wp2_with fail
                  exact ⟨⟨j + 1, by omega, by go_num, by rw [HUS.out, HU0.out], BZ.out⟩, by simp [intOf]; omega⟩
              · obtain rfl : j = LN := by omega
                obtain rfl : o = true := by rw [HOA.out, hun]; rfl
                have BF := Lib.hid (BX.out.trans (hbl.mono BX.out.size))
                clear hbl hun
                go_wp2_with fail
                go_ret
                exact ⟨rfl, BF.out⟩
    · have e2 : (xp != P) = true := bne_iff_ne.2 h4
      obtain rfl : o = false := by rw [← HO.out, beq_eq_false_iff_ne.2 h4]; simp
      clear h3 h4
      go_wp2_with fail
      go_ret
      exact ⟨rfl, BX.out⟩
  · have e1 : (xk != 3) = true := bne_iff_ne.2 h3
    obtain rfl : o = false := by rw [← HO.out, beq_eq_false_iff_ne.2 h3]; simp
    clear h3
    go_wp2_with fail
    go_ret
    exact ⟨rfl, BX.out⟩
set_option maxRecDepth 100000 in
set_option maxHeartbeats 4000000 in
/-- The reference's Linked. -/
theorem rlinked_any (a : Es) (v : Ve) (P t : Int) (w : World) (h : EL w 0 a v) (hok : Eok a) (hP : 0 ≤ P ∧ P < a.n) (hc : a.e.length ≤ v.c) :
    Calls Try.prog 19 #[.agg (ge a v), .int .i64 P, .int .i64 t] w fun e w' => (∃ z : Int, e = .returned (.tuple #[.int .i64 z, .bool (lkA a.e P t).isSome])) ∧ Below w.heap.size w w' := by
  have hm := hok.m
  have HB0 := Lib.hid (box_below w (.cells (ge a v) 33))
  have R0 := Lib.hid (heap_alloc_new w (.cells (ge a v) 33))
  have HE := Lib.hid (Row.below h HB0.out)
  obtain ⟨c0, c1⟩ := geCells R0.out
  have HF := Lib.hid (show (#[.int .i64 a.n, .slice v.A a.e.length v.c] : Array Value) = ge a v from rfl)
  have HOP := Lib.hid (fun w' (hb : Below (w.alloc (.cells (ge a v) 33)).heap.size (w.alloc (.cells (ge a v) 33)) w') k (hk : k < a.e.length) => open_any a v P t k w' (Row.below HE.out hb) hok hP hk hc)
  have HLO := Lib.hid (lk_isopen a.e P t)
  obtain ⟨o, ho⟩ : ∃ o, (lkA a.e P t).isSome = o := ⟨_, rfl⟩
  rw [ho] at HLO ⊢
  have lR := row_lt R0.out
  have hw1 : IntKind.i64.wrap ((a.e.length : Int) - 1) = (a.e.length : Int) - 1 := IntWalk.i64_in _ (by omega)
  clear h hok hP ho
  go_enter Try.func19, Try.ntmps19
  go_wp2_with fail
  generalize w.alloc (.cells (ge a v) 33) = W1 at *
  go_loopw [8] (fun kk wr => ∃ j : Nat, j ≤ a.e.length ∧ kk = .int .i64 ((j : Int) - 1) ∧ (∀ i, j ≤ i → i < a.e.length → opB a.e P t i = false) ∧ Below W1.heap.size W1 wr) (fun kk _ => (intOf kk + 1).toNat)
  case atStart => exact ⟨a.e.length, by omega, rfl, fun i h1 h2 => by omega, Below.refl _ _⟩
  case round =>
    obtain ⟨j, hj, rfl, hno, hbl⟩ := hrel
    have HBL := Lib.hid hbl
    have HNO := Lib.hid hno
    have RB := Lib.hid ((hbl.block _ lR).trans R0.out)
    clear c0 c1
    obtain ⟨c0, c1⟩ := geCells RB.out
    by_cases hlt : j = 0
    · subst hlt
      obtain rfl : o = false := by
        rw [HLO.out, ← Bool.not_eq_true, any_iff]
        rintro ⟨i, h1, h2⟩
        rw [HNO.out i (by omega) h1] at h2
        cases h2
      have d1 : decide ((0 : Int) ≤ (0 : Int) - 1) = false := by decide
      have BF := Lib.hid (HB0.out.trans (hbl.mono HB0.out.size))
      clear hbl hno
      go_wp2_with fail
      go_ret2
      exact ⟨⟨_, rfl⟩, BF.out⟩
    · obtain ⟨i, rfl⟩ : ∃ i, j = i + 1 := ⟨j - 1, by omega⟩
      have hji : ((i + 1 : Nat) : Int) - 1 = (i : Int) := by omega
      rw [hji]
      have d1 : decide ((0 : Int) ≤ (i : Int)) = true := decide_eq_true (by omega)
      have hop := fun w' hb => HOP.out w' hb i (by omega)
      obtain ⟨b, hb⟩ : ∃ b, opB a.e P t i = b := ⟨_, rfl⟩
      rw [hb] at hop
      have HO1 := Lib.hid hop
      have HB := Lib.hid hb
      have HNN := Lib.hid (show b = false → ∀ x, i ≤ x → x < a.e.length → opB a.e P t x = false from fun h x h1 h2 => by
        by_cases e : x = i
        · rw [e, HB.out, h]
        · exact HNO.out x (by omega) h2)
      have hw2 : IntKind.i64.wrap ((i : Int) - 1) = (i : Int) - 1 := IntWalk.i64_in _ (by omega)
      have hle : i < a.e.length := by omega
      clear hop hb hbl hno hji
      cases b with
      | true =>
        obtain rfl : o = true := by rw [HLO.out, any_iff]; exact ⟨i, hle, HB.out⟩
        go_wp2_with (go_at_call 48; rw [HF.out]; refine (HO1.out _ HBL.out).mono ?_; rintro e w2 ⟨rfl, hb2⟩; have B2 := Lib.hid (HB0.out.trans ((HBL.out.trans (hb2.mono HBL.out.size)).mono HB0.out.size)); clear hb2 c0 c1)
        go_ret2
        exact ⟨⟨_, rfl⟩, B2.out⟩
      | false =>
        go_wp2_with (go_at_call 48; rw [HF.out]; refine (HO1.out _ HBL.out).mono ?_; rintro e w2 ⟨rfl, hb2⟩; have B2 := Lib.hid (HBL.out.trans (hb2.mono HBL.out.size)); clear hb2 c0 c1)
        exact ⟨⟨i, by omega, by first | rfl | simp, HNN.out (by first | rfl | trivial), B2.out⟩, by simp [intOf]; try omega⟩
set_option maxRecDepth 100000 in
set_option maxHeartbeats 4000000 in
/-- The reference's Granted. -/
theorem rgranted_any (a : Es) (v : Ve) (P t : Int) (w : World) (h : EL w 0 a v) (hok : Eok a) (hP : 0 ≤ P ∧ P < a.n) :
    Calls Try.prog 20 #[.agg (ge a v), .int .i64 P, .int .i64 t] w (SmPost (gdB a P t) 24 w) := by
  have hm := hok.m
  have HB0 := Lib.hid (box_below w (.cells (ge a v) 33))
  have R0 := Lib.hid (heap_alloc_new w (.cells (ge a v) 33))
  have HE := Lib.hid (Row.below h HB0.out)
  obtain ⟨c0, c1⟩ := geCells R0.out
  have HPL := Lib.hid (place_yes a v P _ (vay_of HE.out hok) ⟨hok.n1, hok.n16⟩ hP)
  have HF := Lib.hid (show (#[.int .i64 a.n, .slice v.A a.e.length v.c] : Array Value) = ge a v from rfl)
  have HGR := Lib.hid (fun w' (hb : Below (w.alloc (.cells (ge a v) 33)).heap.size (w.alloc (.cells (ge a v) 33)) w') (k : Nat) => rgrant_any a v P (k : Int) t w' (Row.below HE.out hb) (by omega))
  have HGB := Lib.hid (fun k => (gdB_yes ⟨hok, hP⟩ t k : gdB a P t k = _))
  have lR := row_lt R0.out
  obtain ⟨i0, hi1, hz0, hz1, hz2⟩ := info_parts zinfo3
  have HI := Lib.hid hi1
  have HI0 := Lib.hid hz0
  have HI1 := Lib.hid hz1
  have HI2 := Lib.hid hz2
  generalize gdB a P t = m at *
  unfold SmPost
  clear hi1 hz0 hz1 hz2 h hok hP
  go_enter Try.func20, Try.ntmps20
  go_wp2_with (go_at_call 49; rw [HF.out]; refine HPL.out.mono ?_; rintro e w1 ⟨rfl, hb1⟩; have B1 := Lib.hid hb1; have R1 := Lib.hid ((hb1.block _ lR).trans R0.out); clear hb1 c0 c1; obtain ⟨c0, c1⟩ := geCells R1.out)
  generalize w.alloc (.cells (ge a v) 33) = W1 at *
  go_loopw [7, 8] (fun ov ii wr => ∃ (k : Nat) (A' : Option Addr) (c' : Nat), k ≤ 24 ∧ ov = .slice A' (cnt m k) c' ∧ ii = .int .i64 (k : Int) ∧ wr.ownsRow w1.heap.size 3 1 (.slice A' (cnt m k) c') (cnt m k) (iv (idx m k)) ∧ Below w1.heap.size w1 wr) (fun _ ii _ => 24 - (intOf ii).toNat)
  case atStart => exact ⟨0, none, 0, by omega, rfl, rfl, own_nil _ _ _ _, Below.refl _ _⟩
  case round =>
    obtain ⟨k, A', c', hk, rfl, rfl, hown, hbl⟩ := hrel
    have HO := Lib.hid hown
    have HBL := Lib.hid hbl
    have hcn := cnt_le m k
    have hsz := hbl.size
    have RB := Lib.hid ((hbl.block _ (row_lt R1.out)).trans R1.out)
    clear c0 c1
    obtain ⟨c0, c1⟩ := geCells RB.out
    by_cases hlt : k < 24
    · have k0 : (0 : Int) ≤ (k : Int) := by omega
      have k1 : decide ((k : Int) < 24) = true := decide_eq_true (by omega)
      have HGK := Lib.hid (fun w' hb => HGR.out w' (B1.out.trans (Below.mono (hb : Below w1.heap.size w1 w') B1.out.size)) k)
      have HB := Lib.hid (HGB.out k)
      generalize grA a.e P t (k : Int) = go at *
      have HIT := Lib.hid (fun h => (idx_tt h : idx m (k + 1) = idx m k ++ [k]))
      have HIF := Lib.hid (fun h => (idx_ff h : idx m (k + 1) = idx m k))
      have HCT := Lib.hid (fun h => (cnt_tt h : cnt m (k + 1) = cnt m k + 1))
      have HCF := Lib.hid (fun h => (cnt_ff h : cnt m (k + 1) = cnt m k))
      have HIS := Lib.hid (iv_snoc (idx m k) k)
      generalize m k = bo at *
      clear hown hbl
      cases go with
      | none =>
        have HX := Lib.hid (HIF.out HB.out)
        have HC := Lib.hid (HCF.out HB.out)
        have HG2 := Lib.hid (show ∀ w', Below w1.heap.size w1 w' → Calls Try.prog 50 #[.agg (ge a v), .int .i64 P, .int .i64 (k : Int), .int .i64 t] w' fun e w'' => e = .returned (.int .i64 (-1)) ∧ Below w'.heap.size w' w'' from HGK.out)
        clear HIT HIF HCT HCF HGK HB
        go_wp2_with (go_at_call 50; rw [HF.out]; refine (HG2.out _ HBL.out).mono ?_; rintro e w2 ⟨rfl, hb2⟩; have B2 := Lib.hid (HBL.out.trans (hb2.mono HBL.out.size)); have O2 := Lib.hid (own_below HO.out hb2); clear hb2 c0 c1)
        exact ⟨⟨k + 1, A', c', by omega, by rw [HC.out], by go_num, by rw [HC.out, HX.out]; exact O2.out, B2.out⟩, by simp [intOf]; omega⟩
      | some x =>
        have HX := Lib.hid (HIT.out HB.out)
        have HC := Lib.hid (HCT.out HB.out)
        have HG2 := Lib.hid (show ∀ w', Below w1.heap.size w1 w' → Calls Try.prog 50 #[.agg (ge a v), .int .i64 P, .int .i64 (k : Int), .int .i64 t] w' fun e w'' => e = .returned (.int .i64 (x : Int)) ∧ Below w'.heap.size w' w'' from HGK.out)
        have d2 : decide ((0 : Int) ≤ (x : Int)) = true := decide_eq_true (by omega)
        clear HIT HIF HCT HCF HGK HB
        go_wp2_with (first
          | (go_at_call 50; rw [HF.out]; refine (HG2.out _ HBL.out).mono ?_; rintro e w2 ⟨rfl, hb2⟩; have B2 := Lib.hid (HBL.out.trans (hb2.mono HBL.out.size)); have O2 := Lib.hid (own_below HO.out hb2); have hs2 := B2.out.size; clear hb2 c0 c1)
          | (at_builtin; refine wpList_append_own _ rfl (.tmp 23) (.tmp 25) 22 rfl w1.heap.size 3 i0 (.int .i64 0) 1 8 Try.underlying22 HI.out HI0.out HI1.out HI2.out rfl (by decide) _ (cnt m k) (iv (idx m k)) rfl (O2.out.alloc _) ⟨w2.heap.size, 0, none⟩ 1 1 [.int .i64 (k : Int)] rfl rfl (World.news_of_block (heap_alloc_new w2 _)) (by simp [Value.oneCell']) (by unfold maxLen; omega) (by omega) (by simp; omega) ?_; intro v' w6 hown6 hgr _; obtain ⟨A6, c6, rfl⟩ := own_form hown6; have O6 := Lib.hid hown6; have B6 := Lib.hid ((B2.out.trans ((box_below _ _).mono B2.out.size)).grown hgr (by simp; omega) (fun g e => (O2.out.lt g e).1)); clear hown6 hgr))
        exact ⟨⟨k + 1, A6, c6, by omega, by rw [HC.out], by go_num, by rw [HC.out, HX.out, HIS.out]; exact O6.out, B6.out⟩, by simp [intOf]; omega⟩
    · obtain rfl : k = 24 := by omega
      have BF := Lib.hid (HB0.out.trans ((B1.out.trans (hbl.mono B1.out.size)).mono HB0.out.size))
      have lB := (HB0.out.trans (B1.out.mono HB0.out.size)).size
      clear hown hbl
      go_wp2_with fail
      go_ret
      exact ⟨A', c', by first | rfl | simp, own_base HO.out lB, BF.out⟩

end Go.Proofs.Ytgknfkmojhganaa.Di
