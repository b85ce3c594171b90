import Derived.Test.YtgknfkmojhganaaGreatDiV
import Derived.Test.YtgknfkmojhganaaGreatAcE
import Derived.Test.YtgknfkmojhganaaGreatAcL
import Derived.Test.YtgknfkmojhganaaGreatAcJ
import Derived.Test.YtgknfkmojhganaaGreatDjD
import Derived.Test.YtgknfkmojhganaaGreatCoI
import Derived.Deep.RegionWith
import Derived.Deep.RegionHeld3
import Derived.Test.YtgknfkmojhganaaGreatDjM
import Derived.Test.YtgknfkmojhganaaGreatDjN
import Derived.BigQuiet
import Derived.Test.YtgknfkmojhganaaGreatAcI
import Derived.Test.YtgknfkmojhganaaGreatDjF

namespace Go.Proofs.YtgknfkmojhganaaGreat.Di
set_option linter.unusedVariables false

/-- Is a principal with a grant a reader, or has it as a member? -/
noncomputable def keyB (d : Dy) (a : Es) (p P t q : Nat) : Bool := upB d t p q && gdB a (P : Int) (t : Int) q
/-- May a reader read a place? -/
noncomputable def mayB (d : Dy) (a : Es) (p P t : Nat) : Bool := rB d p && ((lkA a.e (P : Int) (t : Int)).isSome || anyB (keyB d a p P t) d.k.length)
theorem any_congr {f g : Nat → Bool} : ∀ n, (∀ i, i < n → f i = g i) → anyB f n = anyB g n
  | 0, _ => rfl
  | n + 1, h => by rw [anyB, anyB, any_congr n (fun i hi => h i (by omega)), h n (by omega)]
/-- A directory without what happens later. -/
def cutD (d : Dy) (m : Nat) : Dy := ⟨d.k, d.e.take m⟩
theorem eg_take {d : Dy} {m j : Nat} (h : j < m) : eg (cutD d m) j = eg d j := by
  unfold eg cutD
  rw [List.getD_eq_getElem?_getD, List.getD_eq_getElem?_getD, List.getElem?_take_of_lt h]
theorem dmk_cut {d : Dy} {m : Nat} (t p q : Nat) : ∀ k, k ≤ m → dmk (cutD d m) t p q k = dmk d t p q k
  | 0, _ => rfl
  | k + 1, hk => by rw [dmk, dmk, eg_take (by omega), dmk_cut t p q k (by omega)]
theorem dmk_skip {d : Dy} (t p q m : Nat) : ∀ i, (∀ j, m ≤ j → j < m + i → t < (eg d j).t) → dmk d t p q (m + i) = dmk d t p q m
  | 0, _ => rfl
  | i + 1, h => by
    rw [show m + (i + 1) = m + i + 1 by omega, dmk, if_neg, dmk_skip t p q m i (fun j h1 h2 => h j h1 (by omega))]
    rw [hitm_iff]
    have := h (m + i) (by omega) (by omega)
    omega
theorem dm_cut {d : Dy} {m t : Nat} (hm : m ≤ d.e.length) (h : ∀ j, j < d.e.length → ((eg d j).t ≤ t ↔ j < m)) : dm (cutD d m) t = dm d t := by
  funext p q
  unfold dm
  have hl : (cutD d m).e.length = m := by show (d.e.take m).length = m; rw [List.length_take]; omega
  rw [hl, dmk_cut t p q m (Nat.le_refl _)]
  obtain ⟨i, hi⟩ : ∃ i, d.e.length = m + i := ⟨d.e.length - m, by omega⟩
  rw [hi, dmk_skip t p q m i (fun j h1 h2 => by have := (h j (by omega)).1; omega)]
theorem Ok.cut {d : Dy} (h : Ok d) (m : Nat) : Ok (cutD d m) := by
  have hl : (cutD d m).e.length ≤ d.e.length := by show (d.e.take m).length ≤ _; rw [List.length_take]; omega
  have hl2 : (cutD d m).e.length ≤ m := by show (d.e.take m).length ≤ _; rw [List.length_take]; omega
  refine ⟨h.n, by have := h.m; omega, h.k, fun j hj => ?_, fun j hj => ?_⟩
  · rw [eg_take (by omega)]
    have := h.e j (by omega)
    exact ⟨this.k, this.t, this.p, this.g, this.gr, this.ne⟩
  · rw [eg_take (by omega), eg_take (by omega)]; exact h.up j (by omega)
theorem Ok.hapD {d : Dy} (h : Ok d) (t : Nat) : ∃ m, m ≤ d.e.length ∧ ∀ j, j < d.e.length → ((eg d j).t ≤ t ↔ j < m) := by
  have key : ∀ n, n ≤ d.e.length → ∃ m, m ≤ n ∧ ∀ j, j < n → ((eg d j).t ≤ t ↔ j < m) := by
    intro n
    induction n with
    | zero => intro _; exact ⟨0, Nat.le_refl _, fun j hj => absurd hj (by omega)⟩
    | succ n ih =>
      intro hn
      obtain ⟨m, h1, h2⟩ := ih (by omega)
      by_cases e : (eg d n).t ≤ t
      · refine ⟨n + 1, Nat.le_refl _, fun j hj => ⟨fun _ => hj, fun _ => ?_⟩⟩
        have mono : ∀ i, j + i < d.e.length → (eg d j).t ≤ (eg d (j + i)).t := by
          intro i
          induction i with
          | zero => intro _; exact Nat.le_refl _
          | succ i ih => intro hi; exact Nat.le_trans (ih (by omega)) (h.up (j + i) (by omega))
        have := mono (n - j) (by omega)
        rw [show j + (n - j) = n by omega] at this
        omega
      · refine ⟨m, by omega, fun j hj => ?_⟩
        by_cases e2 : j = n
        · rw [e2]; exact ⟨fun h => absurd h e, fun h => by omega⟩
        · exact h2 j (by omega)
  exact key d.e.length (Nat.le_refl _)
theorem upB_cut {d : Dy} {m t : Nat} (hm : m ≤ d.e.length) (h : ∀ j, j < d.e.length → ((eg d j).t ≤ t ↔ j < m)) : upB (cutD d m) t = upB d t := by
  funext p q
  have e : Rc (cutD d m) t p q ↔ Rc d t p q := by
    show Reach (dm (cutD d m) t) d.k.length p q ↔ Reach (dm d t) d.k.length p q
    rw [dm_cut hm h]
  exact Bool.eq_iff_iff.2 (by rw [upB_iff, upB_iff, e]; rfl)
theorem may_cut {d : Dy} {a : Es} (ha : Eok a) {p P t m1 m2 : Nat} (hP : (P : Int) < a.n) (hm1 : m1 ≤ d.e.length) (h1 : ∀ j, j < d.e.length → ((eg d j).t ≤ t ↔ j < m1)) (hm2 : m2 ≤ a.e.length) (h2 : ∀ j, j < a.e.length → ((ag a.e j).t ≤ (t : Int) ↔ j < m2)) :
    mayB (cutD d m1) ⟨a.n, a.e.take m2⟩ p P t = mayB d a p P t := by
  unfold mayB
  have e1 : lkA (a.e.take m2) (P : Int) (t : Int) = lkA a.e (P : Int) (t : Int) := cut_lk hm2 h2 _
  have e2 : gdB ⟨a.n, a.e.take m2⟩ (P : Int) (t : Int) = gdB a (P : Int) (t : Int) := funext fun r => by
    rw [gdB_yes ⟨ha.take m2, by omega, hP⟩, gdB_yes ⟨ha, by omega, hP⟩]
    show (grA (a.e.take m2) _ _ _).isSome = _
    rw [cut_gr hm2 h2]
  show (rB d p && ((lkA (a.e.take m2) (P : Int) (t : Int)).isSome || anyB (keyB (cutD d m1) ⟨a.n, a.e.take m2⟩ p P t) d.k.length)) = _
  rw [e1]
  congr 2
  refine any_congr _ fun q _ => ?_
  unfold keyB
  rw [upB_cut hm1 h1, e2]
/-- A grant more. -/
theorem gr_more {a : Es} {lt t : Int} {P q r : Nat} (hok2 : Eok ⟨a.n, a.e ++ [⟨lt, 1, (P : Int), (q : Int), 0, 0, 0⟩]⟩) (hok : Eok a) (hP : (P : Int) < a.n) (ht : lt ≤ t) : gdB ⟨a.n, a.e ++ [⟨lt, 1, (P : Int), (q : Int), 0, 0, 0⟩]⟩ (P : Int) t r = (gdB a (P : Int) t r || (r == q)) := by
  rw [gdB_yes ⟨hok2, by omega, hP⟩, gdB_yes ⟨hok, by omega, hP⟩]
  show (grA (a.e ++ [⟨lt, 1, (P : Int), (q : Int), 0, 0, 0⟩]) (P : Int) t (r : Int)).isSome = _
  rw [grA_snoc, if_neg (show ¬ (t < lt ∨ (P : Int) ≠ (P : Int)) by omega), if_pos (show (1 : Int) = 1 from rfl)]
  show (if (q : Int) = (r : Int) then some a.e.length else _).isSome = _
  by_cases e : q = r
  · rw [if_pos (by omega), e]; simp
  · rw [if_neg (by omega), show (r == q) = false from beq_eq_false_iff_ne.2 (Ne.symm e), Bool.or_false]
theorem lk_more {a : Es} {lt t : Int} {P q : Nat} : lkA (a.e ++ [⟨lt, 1, (P : Int), (q : Int), 0, 0, 0⟩]) (P : Int) t = lkA a.e (P : Int) t := by
  rw [lkA_snoc]
  split
  · rfl
  · rw [if_neg (show ¬ (1 : Int) = 4 by decide), if_neg (fun h => absurd h.1 (show ¬ (1 : Int) = 3 by decide))]
theorem any_or {f g : Nat → Bool} : ∀ n, anyB (fun i => f i || g i) n = (anyB f n || anyB g n)
  | 0 => rfl
  | n + 1 => by rw [anyB, anyB, anyB, any_or n]; cases anyB f n <;> cases anyB g n <;> cases f n <;> cases g n <;> rfl
theorem any_one {f : Nat → Bool} {q : Nat} : ∀ n, q < n → anyB (fun i => f i && (i == q)) n = f q := fun n hq => by
  apply Bool.eq_iff_iff.2
  rw [any_iff]
  constructor
  · rintro ⟨i, hi, h⟩
    rw [Bool.and_eq_true, beq_iff_eq] at h
    rw [← h.2]; exact h.1
  · intro h
    exact ⟨q, hq, by rw [h]; simp⟩
theorem may_more {d : Dy} {a : Es} {lt : Int} {P q p t : Nat} (hok2 : Eok ⟨a.n, a.e ++ [⟨lt, 1, (P : Int), (q : Int), 0, 0, 0⟩]⟩) (hok : Eok a) (hP : (P : Int) < a.n) (ht : lt ≤ (t : Int)) (hq : q < d.k.length) :
    mayB d ⟨a.n, a.e ++ [⟨lt, 1, (P : Int), (q : Int), 0, 0, 0⟩]⟩ p P t = (mayB d a p P t || (rB d p && upB d t p q)) := by
  unfold mayB
  show (rB d p && ((lkA (a.e ++ [⟨lt, 1, (P : Int), (q : Int), 0, 0, 0⟩]) (P : Int) (t : Int)).isSome || anyB (keyB d ⟨a.n, a.e ++ [⟨lt, 1, (P : Int), (q : Int), 0, 0, 0⟩]⟩ p P t) d.k.length)) = _
  rw [lk_more]
  have e : anyB (keyB d ⟨a.n, a.e ++ [⟨lt, 1, (P : Int), (q : Int), 0, 0, 0⟩]⟩ p P t) d.k.length = (anyB (keyB d a p P t) d.k.length || upB d t p q) := by
    rw [← any_one (f := upB d t p) d.k.length hq, ← any_or]
    refine any_congr _ fun i _ => ?_
    unfold keyB
    rw [gr_more hok2 hok hP ht]
    cases upB d t p i <;> cases gdB a (P : Int) (t : Int) i <;> rfl
  rw [e]
  cases rB d p <;> cases (lkA a.e (P : Int) (t : Int)).isSome <;> cases anyB (keyB d a p P t) d.k.length <;> cases upB d t p q <;> rfl

end Go.Proofs.YtgknfkmojhganaaGreat.Di

namespace Go.Proofs.YtgknfkmojhganaaGreat.Di
open Go.RowKit
open Go.Proofs.YtgknfkmojhganaaGreat.Tp
set_option linter.unusedVariables false

theorem rB_no {d : Dy} {p : Nat} (h : ¬ p < d.k.length) : rB d p = false := by unfold rB; rw [decide_eq_false h, Bool.false_and]
set_option maxRecDepth 100000 in
set_option maxHeartbeats 400000 in
theorem isr_any (B : Nat) (d : Dy) (v : Vd) (p : Nat) (w : World) (h : DL w B d v) :
    Calls Tryz.prog 90 #[.agg (gd d v), .int .i64 (p : Int)] w fun e w' => e = .returned (.bool (rB d p)) ∧ Below w.heap.size w w' := by
  have HB0 := Lib.hid (box_below w (.cells (gd d v) 25))
  have R0 := Lib.hid (heap_alloc_new w (.cells (gd d v) 25))
  obtain ⟨g0, g1⟩ := gdCells R0.out
  have p0 : (0 : Int) ≤ (p : Int) := by omega
  have d0 : decide ((0 : Int) ≤ (p : Int)) = true := decide_eq_true p0
  by_cases hp : p < d.k.length
  · obtain ⟨b, off, hA, -, lb, y0⟩ := (h.below HB0.out).r1.int hp
    have hK : d.k.getD p 0 = kd d p := rfl
    rw [hK] at y0
    have hgb : rB d p = (((kd d p : Nat) : Int) != 2) := by
      unfold rB
      rw [decide_eq_true hp, Bool.true_and]
      by_cases e : kd d p = 2
      · rw [e]; rfl
      · rw [bne, bne, beq_eq_false_iff_ne.2 e, beq_eq_false_iff_ne.2 (by omega)]
    have p1 : (p : Int) < (d.k.length : Int) := by omega
    have d1 : decide ((p : Int) < (d.k.length : Int)) = true := decide_eq_true p1
    rw [hA] at g0
    generalize hk : kd d p = k at *
    obtain ⟨bq, hbq⟩ : ∃ bq, ((k : Int) != 2) = bq := ⟨_, rfl⟩
    rw [hbq] at hgb
    have HGB := Lib.hid hgb
    clear h hK hA hgb hk
    go_enter Tryz.func90, Tryz.ntmps90
    go_wp2_with fail
    go_ret
    exact ⟨by rw [HGB.out]; first | rfl | simp, HB0.out⟩
  · have d1 : decide ((p : Int) < (d.k.length : Int)) = false := decide_eq_false (by omega)
    have HGB := Lib.hid (rB_no hp)
    have p1 : ¬ (p : Int) < (d.k.length : Int) := by omega
    clear h
    go_enter Tryz.func90, Tryz.ntmps90
    go_wp2_with fail
    go_ret
    exact ⟨by rw [HGB.out]; first | rfl | simp, HB0.out⟩
set_option maxRecDepth 100000 in
set_option maxHeartbeats 1000000 in
theorem exr_any (d : Dy) (v : Vd) (a : Es) (u : Ve) (p P : Nat) (w : World) (h : DL w 0 d v) (hok : Ok d) (he : EL w 0 a u) (hea : Eok a) (hP : (P : Int) < a.n) :
    Calls Tryz.prog 48 #[.agg (gd d v), .agg (ge a u), .int .i64 (p : Int), .int .i64 (P : Int)] w fun e w' => e = .returned (.bool (rB d p)) ∧ Below w.heap.size w w' := by
  have hbx := (box_below w (.cells (gd d v) 25)).trans ((box_below (w.alloc (.cells (gd d v) 25)) (.cells (ge a u) 28)).mono (by simp))
  have HBX := Lib.hid hbx
  have D1 := Lib.hid (heap_alloc2_old w (.cells (gd d v) 25) (.cells (ge a u) 28))
  have E1 := Lib.hid (heap_alloc2_new w (.cells (gd d v) 25) (.cells (ge a u) 28))
  obtain ⟨g0, g1⟩ := gdCells D1.out
  obtain ⟨c0, c1⟩ := geCells E1.out
  have HCD := Lib.hid (check_any 0 d v _ (h.below hbx) hok)
  have HCE := Lib.hid (fun w' (hb : Below w.heap.size w w') => (by have := acheck_any a u w' (Row.below he hb); rw [ck_ok hea] at this; exact this : Calls Tryz.prog 45 #[.agg (ge a u)] w' fun e w'' => e = .returned (.int .i64 0) ∧ Below w'.heap.size w' w''))
  have HIR := Lib.hid (fun w' (hb : Below w.heap.size w w') => isr_any 0 d v p w' (h.below hb))
  have HFD := Lib.hid (show (#[.slice v.A1 d.k.length v.c1, .slice v.A2 d.e.length v.c2] : Array Value) = gd d v from rfl)
  have HFE := Lib.hid (show (#[.int .i64 a.n, .slice u.A a.e.length u.c] : Array Value) = ge a u from rfl)
  have d0 : decide ((0 : Int) ≤ (P : Int)) = true := decide_eq_true (by omega)
  have d1 : decide ((P : Int) < a.n) = true := decide_eq_true hP
  have lD := row_lt D1.out
  have lE := row_lt E1.out
  generalize rB d p = q at *
  clear h hok he hea hP hbx
  cases q with
  | true =>
    go_enter Tryz.func48, Tryz.ntmps48
    go_wp2_with (first
      | (go_at_call 44; rw [HFD.out]; refine HCD.out.mono ?_; rintro e w1 ⟨rfl, hb1⟩; have B1 := Lib.hid (HBX.out.trans (hb1.mono HBX.out.size)); have D2 := Lib.hid ((hb1.block _ lD).trans D1.out); have E2 := Lib.hid ((hb1.block _ lE).trans E1.out); clear hb1 g0 g1 c0 c1; obtain ⟨c0, c1⟩ := geCells E2.out)
      | (go_at_call 45; rw [HFE.out]; refine (HCE.out _ B1.out).mono ?_; rintro e w2 ⟨rfl, hb2⟩; have B2 := Lib.hid (B1.out.trans (hb2.mono B1.out.size)); have D3 := Lib.hid ((hb2.block _ (row_lt D2.out)).trans D2.out); have E3 := Lib.hid ((hb2.block _ (row_lt E2.out)).trans E2.out); clear hb2 c0 c1; obtain ⟨g0, g1⟩ := gdCells D3.out)
      | (go_at_call 90; rw [HFD.out]; refine (HIR.out _ B2.out).mono ?_; rintro e w3 ⟨rfl, hb3⟩; have B3 := Lib.hid (B2.out.trans (hb3.mono B2.out.size)); have E4 := Lib.hid ((hb3.block _ (row_lt E3.out)).trans E3.out); clear hb3 g0 g1; obtain ⟨c0, c1⟩ := geCells E4.out))
    go_ret
    exact ⟨by first | rfl | simp, B3.out⟩
  | false =>
    go_enter Tryz.func48, Tryz.ntmps48
    go_wp2_with (first
      | (go_at_call 44; rw [HFD.out]; refine HCD.out.mono ?_; rintro e w1 ⟨rfl, hb1⟩; have B1 := Lib.hid (HBX.out.trans (hb1.mono HBX.out.size)); have D2 := Lib.hid ((hb1.block _ lD).trans D1.out); have E2 := Lib.hid ((hb1.block _ lE).trans E1.out); clear hb1 g0 g1 c0 c1; obtain ⟨c0, c1⟩ := geCells E2.out)
      | (go_at_call 45; rw [HFE.out]; refine (HCE.out _ B1.out).mono ?_; rintro e w2 ⟨rfl, hb2⟩; have B2 := Lib.hid (B1.out.trans (hb2.mono B1.out.size)); have D3 := Lib.hid ((hb2.block _ (row_lt D2.out)).trans D2.out); have E3 := Lib.hid ((hb2.block _ (row_lt E2.out)).trans E2.out); clear hb2 c0 c1; obtain ⟨g0, g1⟩ := gdCells D3.out)
      | (go_at_call 90; rw [HFD.out]; refine (HIR.out _ B2.out).mono ?_; rintro e w3 ⟨rfl, hb3⟩; have B3 := Lib.hid (B2.out.trans (hb3.mono B2.out.size)); have E4 := Lib.hid ((hb3.block _ (row_lt E3.out)).trans E3.out); clear hb3 g0 g1; obtain ⟨c0, c1⟩ := geCells E4.out))
    go_ret
    exact ⟨by first | rfl | simp, B3.out⟩
set_option maxRecDepth 100000 in
set_option maxHeartbeats 400000 in
theorem kx_call (g : Nat → Bool) (q : Nat) (hq : q < 24) (X : Option Addr) (cc G : Nat) (w : World) (hc : w.cell? ⟨G, 0, none⟩ = some (.slice X (cnt g 24) cc)) (hr : Row w 0 1 X (cnt g 24) (iv (idx g 24))) :
    Calls Tryz.prog 93 (#[.int .i64 (q : Int)] ++ #[.pointer (some ⟨G, 0, none⟩)]) w fun e w' => e = .returned (.bool (g q)) ∧ Below w.heap.size w w' := by
  have hcn := cnt_le g 24
  have h := contains_any (idx g 24) q X (cnt g 24) cc w hr (by omega)
  rw [has_idx g 24 q hq] at h
  have H := Lib.hid h
  generalize cnt g 24 = n at *
  generalize g q = b at *
  clear h hr
  show Calls Tryz.prog 93 #[.int .i64 (q : Int), .pointer (some ⟨G, 0, none⟩)] w _
  go_enter Tryz.func93, Tryz.ntmps93
  go_wp2_with (go_at_call 60; refine H.out.mono ?_; rintro e w1 ⟨rfl, rfl⟩)
  go_ret
  exact ⟨by first | rfl | simp, Below.refl _ _⟩
set_option maxRecDepth 100000 in
set_option maxHeartbeats 400000 in
/-- IndexFunc over the test of key. -/
theorem idx60_any (l : List Nat) (ca : Array Value) (A : Option Addr) (n c : Nat) (p : Nat → Bool) (w : World) (hn : n ≤ 1000) (h : Row w 0 1 A n (iv l))
    (hp : ∀ i, i < n → ∀ w', Below w.heap.size w w' → Calls Tryz.prog 93 (#[.int .i64 ((l.getD i 0 : Nat) : Int)] ++ ca) w' fun e w'' => e = .returned (.bool (p i)) ∧ Below w'.heap.size w' w'') :
    Calls Tryz.prog 92 #[.slice A n c, .func (.func 93) #[] ca] w fun e w' => e = .returned (.int .i64 (fi p n 0)) ∧ Below w.heap.size w w' := by
  have H := Lib.hid h
  have HP := Lib.hid hp
  clear h hp
  go_enter Tryz.func92, Tryz.ntmps92
  go_wp2
  go_loopw [8] (fun i wr => ∃ k : Nat, k ≤ n ∧ i = .int .i64 k ∧ fi p n 0 = fi p (n - k) k ∧ Below w.heap.size w wr) (fun i _ => n - (intOf i).toNat)
  case atStart => exact ⟨0, by omega, rfl, rfl, Below.refl _ _⟩
  case round =>
    obtain ⟨k, hk, rfl, hfi, hbl⟩ := hrel
    have HBL := Lib.hid hbl
    have HF := Lib.hid hfi
    clear hfi
    by_cases hlt : k < n
    · obtain ⟨b, off, rfl, hB, hbk, y0⟩ := (H.out.below hbl).int hlt
      have HC := Lib.hid (HP.out k hlt wr hbl)
      have HFI := Lib.hid (fi_step p n k hlt)
      have j0 : (0 : Int) ≤ (k : Int) := by omega
      have j1 : (k : Int) < (n : Int) := by omega
      clear hbl
      generalize l.getD k 0 = x at *
      cases hpk : p k with
      | true =>
        rw [hpk] at HC
        have HPK := Lib.hid hpk
        clear hpk
        go_wp2_with (go_at_call 93; refine HC.out.mono ?_; rintro e w2 ⟨rfl, hb2⟩; have HB2 := Lib.hid (HBL.out.trans (hb2.mono HBL.out.size)); clear hb2)
        go_ret
        refine ⟨?_, HB2.out⟩
        rw [HF.out, HFI.out.1 HPK.out]
        rfl
      | false =>
        rw [hpk] at HC
        have HPK := Lib.hid hpk
        clear hpk
        go_wp2_with (go_at_call 93; refine HC.out.mono ?_; rintro e w2 ⟨rfl, hb2⟩; have HB2 := Lib.hid (HBL.out.trans (hb2.mono HBL.out.size)); clear hb2)
        exact ⟨⟨k + 1, by omega, by go_num, by rw [HF.out, HFI.out.2 HPK.out], HB2.out⟩, by simp [intOf]; omega⟩
    · obtain rfl : n = k := by omega
      go_wp2
      go_ret
      exact ⟨by rw [HF.out, Nat.sub_self]; rfl, HBL.out⟩
theorem any_idx (u g : Nat → Bool) (n : Nat) : anyB (fun i => g ((idx u n).getD i 0)) (cnt u n) = anyB (fun q => u q && g q) n := by
  apply Bool.eq_iff_iff.2
  rw [any_iff, any_iff]
  constructor
  · rintro ⟨i, hi, h⟩
    have hm : (idx u n).getD i 0 ∈ idx u n := by
      rw [List.getD_eq_getElem?_getD, List.getElem?_eq_getElem (by rw [idx_len]; exact hi)]
      exact List.getElem_mem _
    obtain ⟨h1, h2⟩ := (idx_mem u _ n).1 hm
    exact ⟨_, h1, by rw [h2, h]; rfl⟩
  · rintro ⟨q, hq, h⟩
    rw [Bool.and_eq_true] at h
    obtain ⟨i, hi, he⟩ := List.getElem_of_mem ((idx_mem u q n).2 ⟨hq, h.1⟩)
    rw [idx_len] at hi
    exact ⟨i, hi, by rw [List.getD_eq_getElem?_getD, List.getElem?_eq_getElem (by rw [idx_len]; exact hi), Option.getD_some, he]; exact h.2⟩
def KyPost (d : Dy) (a : Es) (p P t : Nat) (w : World) (e : Ending) (w' : World) : Prop := ∃ (q : Int) (b : Bool), e = .returned (.tuple #[.int .i64 q, .bool b]) ∧ b = anyB (keyB d a p P t) d.k.length ∧ (b = true → ∃ k : Nat, q = (k : Int) ∧ k < d.k.length ∧ keyB d a p P t k = true) ∧ Below w.heap.size w w'
set_option maxRecDepth 100000 in
set_option maxHeartbeats 2000000 in
theorem key_any (d : Dy) (v : Vd) (a : Es) (u : Ve) (p P t : Nat) (w : World) (h : DL w 0 d v) (hok : Ok d) (he : EL w 0 a u) (hea : Eok a) :
    Calls Tryz.prog 49 #[.agg (gd d v), .agg (ge a u), .int .i64 (p : Int), .int .i64 (P : Int), .int .i64 (t : Int)] w (KyPost d a p P t w) := by
  have hbx := (box_below w (.cells (gd d v) 25)).trans ((box_below (w.alloc (.cells (gd d v) 25)) (.cells (ge a u) 28)).mono (by simp))
  have HBX := Lib.hid hbx
  have D1 := Lib.hid (heap_alloc2_old w (.cells (gd d v) 25) (.cells (ge a u) 28))
  have E1 := Lib.hid (heap_alloc2_new w (.cells (gd d v) 25) (.cells (ge a u) 28))
  obtain ⟨c0, c1⟩ := geCells E1.out
  have hn := hok.n
  have HGR := Lib.hid (granted_any a u (P : Int) (t : Int) _ (Row.below he hbx))
  have HUP := Lib.hid (fun w' (hb : Below w.heap.size w w') => upw_any 0 d v p t w' (h.below hb) hok)
  have HFD := Lib.hid (show (#[.slice v.A1 d.k.length v.c1, .slice v.A2 d.e.length v.c2] : Array Value) = gd d v from rfl)
  have HFE := Lib.hid (show (#[.int .i64 a.n, .slice u.A a.e.length u.c] : Array Value) = ge a u from rfl)
  unfold KyPost
  have HKB := Lib.hid (show anyB (fun i => gdB a (P : Int) (t : Int) ((idx (upB d t p) d.k.length).getD i 0)) (cnt (upB d t p) d.k.length) = anyB (keyB d a p P t) d.k.length from any_idx _ _ _)
  have HKQ := Lib.hid (show ∀ k, keyB d a p P t k = (upB d t p k && gdB a (P : Int) (t : Int) k) from fun k => rfl)
  have HMM := Lib.hid (fun i (hi : i < cnt (upB d t p) d.k.length) => (idx_mem (upB d t p) ((idx (upB d t p) d.k.length).getD i 0) d.k.length).1 (by
    rw [List.getD_eq_getElem?_getD, List.getElem?_eq_getElem (by rw [idx_len]; exact hi)]
    exact List.getElem_mem _))
  have hlD := row_lt D1.out
  have hlE := row_lt E1.out
  have hcl := cnt_le (upB d t p) d.k.length
  generalize anyB (keyB d a p P t) d.k.length = kb at *
  generalize keyB d a p P t = kq at *
  generalize upB d t p = ub at *
  generalize gdB a (P : Int) (t : Int) = gb at *
  clear h hok he hea hbx
  go_enter Tryz.func49, Tryz.ntmps49
  go_wp2_with (go_at_call 61; rw [HFE.out]; refine HGR.out.mono ?_; rintro e w1 ⟨X, xc, rfl, hown, hb1⟩; have B1 := Lib.hid (HBX.out.trans (hb1.mono HBX.out.size)); have D2 := Lib.hid ((hb1.block _ hlD).trans D1.out); have R2 := Lib.hid ((row_of_own hown).base (Nat.zero_le _)); have hset := set_new w1 #[.slice none 0 0] 22 0 (.slice X (cnt gb 24) xc); have hbz := box_below w1 (.cells #[.slice X (cnt gb 24) xc] 22); have N2 := Lib.hid (heap_alloc_new w1 (.cells #[.slice X (cnt gb 24) xc] 22)); have D3 := Lib.hid ((hbz.block _ (row_lt D2.out)).trans D2.out); have B3 := Lib.hid (B1.out.trans (hbz.mono B1.out.size)); have R3 := Lib.hid (R2.out.below hbz); clear hb1 hown c0 c1 hbz; obtain ⟨g0, g1⟩ := gdCells D3.out)
  have HU2 := Lib.hid (HUP.out _ B3.out)
  refine HU2.out.mono ?_
  rintro e w4 ⟨Y, yc, rfl, hown, hb4⟩
  have B4 := Lib.hid (B3.out.trans (hb4.mono B3.out.size))
  have N4 := (hb4.block _ (row_lt N2.out)).trans N2.out
  have R4 := Lib.hid (R3.out.below hb4)
  have RY := Lib.hid ((row_of_own hown).base (Nat.zero_le _))
  have m0 : w4.cell? ⟨w1.heap.size, 0, none⟩ = some (.slice X (cnt gb 24) xc) := by rw [cell_of_row _ _ _ _ _ _ N4]; rfl
  have M0 := Lib.hid m0
  have HIF := Lib.hid (idx60_any (idx ub d.k.length) #[.pointer (some ⟨w1.heap.size, 0, none⟩)] Y (cnt ub d.k.length) yc (fun i => gb ((idx ub d.k.length).getD i 0)) w4 (by omega) RY.out (fun i hi w' hw => kx_call gb _ (by have := (HMM.out i hi).1; omega) X xc w1.heap.size w' ((hw.cell (p := ⟨w1.heap.size, 0, none⟩) (row_lt N4)).trans M0.out) (R4.out.below hw)))
  clear hown hb4 g0 g1 N4 m0
  have hfi := fi_all (fun i => gb ((idx ub d.k.length).getD i 0)) (cnt ub d.k.length) 0
  rcases hfi with ⟨hf, hno⟩ | ⟨j, hj, hf, hyes, -⟩
  · rw [hf] at HIF
    have HB := Lib.hid (show kb = false from HKB.out.symm.trans (any_no fun i hi => by have := hno i hi; rwa [Nat.zero_add] at this))
    clear hf hno
    go_wp2_with (go_at_call 92; refine HIF.out.mono ?_; rintro e w5 ⟨rfl, hb5⟩; have B5 := Lib.hid (B4.out.trans (hb5.mono B4.out.size)); clear hb5)
    go_ret2
    exact ⟨0, false, by first | rfl | simp, HB.out.symm, fun h => (by cases h), B5.out⟩
  · rw [hf, Nat.zero_add] at HIF
    rw [Nat.zero_add] at hyes
    obtain ⟨bY, oY, hY, -, lY, y0⟩ := RY.out.int hj
    have HY := Lib.hid hY
    subst hY
    obtain ⟨hm1, hm2⟩ := HMM.out j hj
    have HB := Lib.hid (show kb = true from HKB.out.symm.trans ((any_iff _ _).2 ⟨j, hj, hyes⟩))
    have HKK := Lib.hid (show kq ((idx ub d.k.length).getD j 0) = true from (HKQ.out _).trans (by rw [hm2, hyes]; rfl))
    have Y0 := Lib.hid y0
    have j9 : decide ((j : Int) < 0) = false := decide_eq_false (by omega)
    have j0 : (0 : Int) ≤ (j : Int) := by omega
    have j1 : (j : Int) < ((cnt ub d.k.length : Nat) : Int) := by omega
    clear hf hyes hm2 y0
    go_wp2_with (go_at_call 92; refine HIF.out.mono ?_; rintro e w5 ⟨rfl, hb5⟩; have B5 := Lib.hid (B4.out.trans (hb5.mono B4.out.size)); have y0 := (hb5.cell (p := ⟨bY, oY + j, none⟩) lY).trans Y0.out; clear hb5)
    go_ret2
    exact ⟨_, true, by first | rfl | simp, HB.out.symm, fun _ => ⟨_, rfl, hm1, HKK.out⟩, B5.out⟩

end Go.Proofs.YtgknfkmojhganaaGreat.Di

namespace Go.Proofs.YtgknfkmojhganaaGreat.Di
open Go.RowKit
open Go.Proofs.YtgknfkmojhganaaGreat.Tp
set_option linter.unusedVariables false

theorem may_is (d : Dy) (a : Es) (p P t : Nat) : mayB d a p P t = (rB d p && ((lkA a.e (P : Int) (t : Int)).isSome || anyB (keyB d a p P t) d.k.length)) := rfl
set_option maxRecDepth 100000 in
set_option maxHeartbeats 2000000 in
theorem may_any (d : Dy) (v : Vd) (a : Es) (u : Ve) (p P t : Nat) (w : World) (h : DL w 0 d v) (hok : Ok d) (he : EL w 0 a u) (hea : Eok a) (hP : (P : Int) < a.n) :
    Calls Tryz.prog 18 #[.agg (gd d v), .agg (ge a u), .int .i64 (p : Int), .int .i64 (P : Int), .int .i64 (t : Int)] w fun e w' => e = .returned (.bool (mayB d a p P t)) ∧ Below w.heap.size w w' := by
  have hbx := (box_below w (.cells (gd d v) 25)).trans ((box_below (w.alloc (.cells (gd d v) 25)) (.cells (ge a u) 28)).mono (by simp))
  have HBX := Lib.hid hbx
  have D1 := Lib.hid (heap_alloc2_old w (.cells (gd d v) 25) (.cells (ge a u) 28))
  have E1 := Lib.hid (heap_alloc2_new w (.cells (gd d v) 25) (.cells (ge a u) 28))
  obtain ⟨g0, g1⟩ := gdCells D1.out
  obtain ⟨c0, c1⟩ := geCells E1.out
  have HEX := Lib.hid (exr_any d v a u p P _ (h.below hbx) hok (Row.below he hbx) hea hP)
  have HLK := Lib.hid (fun w' (hb : Below w.heap.size w w') => linked_yes a u (P : Int) (t : Int) w' (Row.below he hb) ⟨hea, by omega, hP⟩)
  have hky := fun w' (hb : Below w.heap.size w w') => key_any d v a u p P t w' (h.below hb) hok (Row.below he hb) hea
  unfold KyPost at hky
  have HKY := Lib.hid hky
  have HFD := Lib.hid (show (#[.slice v.A1 d.k.length v.c1, .slice v.A2 d.e.length v.c2] : Array Value) = gd d v from rfl)
  have HFE := Lib.hid (show (#[.int .i64 a.n, .slice u.A a.e.length u.c] : Array Value) = ge a u from rfl)
  have lD := row_lt D1.out
  have lE := row_lt E1.out
  rw [may_is]
  generalize anyB (keyB d a p P t) d.k.length = kb at *
  generalize rB d p = rb at *
  generalize lkA a.e (P : Int) (t : Int) = o at *
  generalize on o = oi at *
  generalize o.isSome = ob at *
  clear h hok he hea hP hbx hky
  cases rb with
  | false =>
    go_enter Tryz.func18, Tryz.ntmps18
    go_wp2_with (go_at_call 48; rw [HFD.out, HFE.out]; refine HEX.out.mono ?_; rintro e w1 ⟨rfl, hb1⟩; have B1 := Lib.hid (HBX.out.trans (hb1.mono HBX.out.size)); clear hb1 g0 g1 c0 c1)
    go_ret
    exact ⟨by first | rfl | simp, B1.out⟩
  | true =>
    cases ob with
    | true =>
      go_enter Tryz.func18, Tryz.ntmps18
      go_wp2_with (first
        | (go_at_call 48; rw [HFD.out, HFE.out]; refine HEX.out.mono ?_; rintro e w1 ⟨rfl, hb1⟩; have B1 := Lib.hid (HBX.out.trans (hb1.mono HBX.out.size)); have D2 := Lib.hid ((hb1.block _ lD).trans D1.out); have E2 := Lib.hid ((hb1.block _ lE).trans E1.out); clear hb1 g0 g1 c0 c1; obtain ⟨c0, c1⟩ := geCells E2.out)
        | (go_at_call 46; rw [HFE.out]; refine (HLK.out _ B1.out).mono ?_; rintro e w2 ⟨rfl, hb2⟩; have B2 := Lib.hid (B1.out.trans (hb2.mono B1.out.size)); clear hb2 c0 c1))
      go_ret
      exact ⟨by first | rfl | simp, B2.out⟩
    | false =>
      go_enter Tryz.func18, Tryz.ntmps18
      go_wp2_with (first
        | (go_at_call 48; rw [HFD.out, HFE.out]; refine HEX.out.mono ?_; rintro e w1 ⟨rfl, hb1⟩; have B1 := Lib.hid (HBX.out.trans (hb1.mono HBX.out.size)); have D2 := Lib.hid ((hb1.block _ lD).trans D1.out); have E2 := Lib.hid ((hb1.block _ lE).trans E1.out); clear hb1 g0 g1 c0 c1; obtain ⟨c0, c1⟩ := geCells E2.out)
        | (go_at_call 46; rw [HFE.out]; refine (HLK.out _ B1.out).mono ?_; rintro e w2 ⟨rfl, hb2⟩; have B2 := Lib.hid (B1.out.trans (hb2.mono B1.out.size)); have D3 := Lib.hid ((hb2.block _ (row_lt D2.out)).trans D2.out); have E3 := Lib.hid ((hb2.block _ (row_lt E2.out)).trans E2.out); clear hb2 c0 c1; obtain ⟨c0, c1⟩ := geCells E3.out; obtain ⟨g0, g1⟩ := gdCells D3.out)
        | (go_at_call 49; rw [HFD.out, HFE.out]; refine (HKY.out _ B2.out).mono ?_; rintro e w3 ⟨q, b, rfl, rfl, -, hb3⟩; have B3 := Lib.hid (B2.out.trans (hb3.mono B2.out.size)); clear hb3 g0 g1 c0 c1))
      go_ret
      exact ⟨by first | rfl | simp, B3.out⟩
def WoPost (d : Dy) (a : Es) (P t : Nat) (w : World) (e : Ending) (w' : World) : Prop := ∃ X cc, e = .returned (.tuple #[.agg #[.bool (lkA a.e (P : Int) (t : Int)).isSome, .slice X (cnt (fun p => mayB d a p P t) d.k.length) cc], .int .i64 0]) ∧ Row w' w.heap.size 1 X (cnt (fun p => mayB d a p P t) d.k.length) (iv (idx (fun p => mayB d a p P t) d.k.length)) ∧ Below w.heap.size w w'
theorem idx_tt {q : Nat → Bool} {k : Nat} (h : q k = true) : idx q (k + 1) = idx q k ++ [k] := by rw [idx, if_pos h]
theorem idx_ff {q : Nat → Bool} {k : Nat} (h : q k = false) : idx q (k + 1) = idx q k := by rw [idx, if_neg (by rw [h]; decide)]
theorem cnt_tt {q : Nat → Bool} {k : Nat} (h : q k = true) : cnt q (k + 1) = cnt q k + 1 := by rw [← idx_len, ← idx_len, idx_tt h, List.length_append]; rfl
theorem cnt_ff {q : Nat → Bool} {k : Nat} (h : q k = false) : cnt q (k + 1) = cnt q k := by rw [← idx_len, ← idx_len, idx_ff h]
/-- The audience under way. -/
def au (b : Bool) (A : Option Addr) (n c : Nat) : Array Value := #[.bool b, .slice A n c]
theorem auCells {w : World} {b : Bool} {A : Option Addr} {n c : Nat} {t : TypeId} {o : Nat × Nat} {g : Nat} (h : w.heap[g]? = some (.cells (au b A n c) t o)) :
    w.cell? ⟨g, 0, none⟩ = some (.bool b) ∧ w.cell? ⟨g, 1, none⟩ = some (.slice A n c) := by
  refine ⟨?_, ?_⟩ <;> rw [cell_of_row _ _ _ _ _ _ h] <;> rfl
theorem au_one (b : Bool) (A : Option Addr) (n c : Nat) : (au b A n c).all (·.oneCell') = true := by simp [au, Value.oneCell']
theorem info47 (b : Bool) (A : Option Addr) (n c : Nat) : (Tryz.prog.info? 45).map (·.size) = some (au b A n c).size := by
  have h : (Tryz.prog.info? 45).map (·.size) = some 2 := by kernel_rfl
  exact h
/-- While readers are gathered. -/
def ARel (G : Nat) (b : Bool) (L : List Nat) (W : World) : Prop := ∃ (A' : Option Addr) (c' : Nat), W.heap[G]? = some (.cells (au b A' L.length c') 45 (0, 0)) ∧ W.ownsRow G 3 1 (.slice A' L.length c') L.length (iv L)
theorem arel_below {G : Nat} {b : Bool} {L : List Nat} {W W' : World} (h : ARel G b L W) (hb : Below W.heap.size W W') : ARel G b L W' := by
  obtain ⟨A', c', h1, h2⟩ := h
  exact ⟨A', c', (hb.block _ (row_lt h1)).trans h1, own_below h2 hb⟩
theorem arel_q {G n c' : Nat} {b : Bool} {L : List Nat} {A' : Option Addr} {W w12 : World} {o : Obj} (hn : L.length = n) (hq : W.heap[G]? = some (.cells (au b A' n c') 45 (0, 0))) (ho : W.ownsRow G 3 1 (.slice A' n c') n (iv L)) (hgr : (W.alloc o).grownBy w12 (Value.slice A' n c').ownBlock) : w12.heap[G]? = some (.cells (au b A' n c') 45 (0, 0)) := by
  have h1 := (heap_alloc_old W o (row_lt hq)).trans hq
  exact (hgr.block G (by have := row_lt hq; simp; omega) (fun e => own_not (own_below ho (box_below W o)) h1 (by decide) e.symm)).trans h1
theorem arel_add {G n c' c2 k : Nat} {b : Bool} {L : List Nat} {A' A2 : Option Addr} {W w12 : World} {o : Obj} (hn : L.length = n) (hq : W.heap[G]? = some (.cells (au b A' n c') 45 (0, 0))) (ho : W.ownsRow G 3 1 (.slice A' n c') n (iv L)) (hgr : (W.alloc o).grownBy w12 (Value.slice A' n c').ownBlock)
    (ho2 : w12.ownsRow G 3 1 (.slice A2 (n + 1) c2) (n + 1) (iv L ++ [.int .i64 (k : Int)])) : ARel G b (L ++ [k]) (w12.setCell ⟨G, 1, none⟩ (.slice A2 (n + 1) c2)) ∧ w12.setCell ⟨G, 1, none⟩ (.slice A2 (n + 1) c2) = w12.setRow G (au b A2 (n + 1) c2) := by
  have hlen : (L ++ [k]).length = n + 1 := by simp [hn]
  have hq2 := arel_q hn hq ho hgr
  have e : w12.setCell ⟨G, 1, none⟩ (.slice A2 (n + 1) c2) = w12.setRow G (au b A2 (n + 1) c2) := setCell_eq_setRow w12 G 1 _ _ _ _ hq2
  refine ⟨?_, e⟩
  rw [e]
  refine ⟨A2, c2, ?_, ?_⟩
  · rw [hlen]; exact setRow_heap _ _ _ _ _ _ hq2
  · rw [hlen, iv_snoc]
    exact kept_ne ho2 (gb_setRow _ _ _) (fun g e => by cases e; exact own_not ho2 hq2 (by decide))
set_option maxRecDepth 100000 in
set_option maxHeartbeats 4000000 in
theorem who_any (d : Dy) (v : Vd) (a : Es) (u : Ve) (P t : Nat) (w : World) (h : DL w 0 d v) (hok : Ok d) (he : EL w 0 a u) (hea : Eok a) (hP : (P : Int) < a.n) :
    Calls Tryz.prog 15 #[.agg (gd d v), .agg (ge a u), .int .i64 (P : Int), .int .i64 (t : Int)] w (WoPost d a P t w) := by
  have hbx := (box_below w (.cells (gd d v) 25)).trans ((box_below (w.alloc (.cells (gd d v) 25)) (.cells (ge a u) 28)).mono (by simp))
  have hw1 : ((w.alloc (.cells (gd d v) 25)).alloc (.cells (ge a u) 28)).heap.size = w.heap.size + 1 + 1 := by simp
  have D1 := heap_alloc2_old w (.cells (gd d v) 25) (.cells (ge a u) 28)
  have E1 := heap_alloc2_new w (.cells (gd d v) 25) (.cells (ge a u) 28)
  have hn := hok.n
  have hbz := box_below ((w.alloc (.cells (gd d v) 25)).alloc (.cells (ge a u) 28)) (.cells #[.bool false, .slice none 0 0] 45)
  have hbxz := hbx.trans (hbz.mono hbx.size)
  have HBX := Lib.hid hbxz
  have D2 := Lib.hid ((hbz.block _ (row_lt D1)).trans D1)
  have E2 := Lib.hid ((hbz.block _ (row_lt E1)).trans E1)
  have Z2 := heap_alloc_new ((w.alloc (.cells (gd d v) 25)).alloc (.cells (ge a u) 28)) (.cells #[.bool false, .slice none 0 0] 45)
  rw [hw1] at Z2
  have HZ := Lib.hid Z2
  obtain ⟨g0, g1⟩ := gdCells D2.out
  obtain ⟨c0, c1⟩ := geCells E2.out
  have HCD := Lib.hid (check_any 0 d v _ (h.below hbxz) hok)
  have HCE := Lib.hid (fun w' (hb : Below w.heap.size w w') => (by have := acheck_any a u w' (Row.below he hb); rw [ck_ok hea] at this; exact this : Calls Tryz.prog 45 #[.agg (ge a u)] w' fun e w'' => e = .returned (.int .i64 0) ∧ Below w'.heap.size w' w''))
  have HLK := Lib.hid (fun w' (hb : Below w.heap.size w w') => linked_yes a u (P : Int) (t : Int) w' (Row.below he hb) ⟨hea, by omega, hP⟩)
  have HMY := Lib.hid (fun (p : Nat) w' (hb : Below w.heap.size w w') => may_any d v a u p P t w' (h.below hb) hok (Row.below he hb) hea hP)
  have HFD := Lib.hid (show (#[.slice v.A1 d.k.length v.c1, .slice v.A2 d.e.length v.c2] : Array Value) = gd d v from rfl)
  have HFE := Lib.hid (show (#[.int .i64 a.n, .slice u.A a.e.length u.c] : Array Value) = ge a u from rfl)
  have d0 : decide ((P : Int) < 0) = false := decide_eq_false (by omega)
  have d1 : decide (a.n ≤ (P : Int)) = false := decide_eq_false (by omega)
  have lD := row_lt D2.out
  have lE := row_lt E2.out
  have lZ := row_lt Z2
  unfold WoPost
  have HMM := Lib.hid (show ∀ p, (fun p => mayB d a p P t) p = mayB d a p P t from fun p => rfl)
  generalize (fun p => mayB d a p P t) = m at *
  generalize lkA a.e (P : Int) (t : Int) = o at *
  generalize on o = oi at *
  generalize o.isSome = ob at *
  obtain ⟨i0, hi1, hz0, hz1, hz2⟩ := info_parts zinfo3
  have HI := Lib.hid hi1
  have HI0 := Lib.hid hz0
  have HI1 := Lib.hid hz1
  have HI2 := Lib.hid hz2
  clear h hok he hea hP hbx hbz hbxz hw1 D1 E1 Z2 hi1 hz0 hz1 hz2
  go_enter Tryz.func15, Tryz.ntmps15
  go_wp2_with (first
    | (go_at_call 44; rw [HFD.out]; refine HCD.out.mono ?_; rintro e w1 ⟨rfl, hb1⟩; have B1 := Lib.hid (HBX.out.trans (hb1.mono HBX.out.size)); have D3 := Lib.hid ((hb1.block _ lD).trans D2.out); have E3 := Lib.hid ((hb1.block _ lE).trans E2.out); have Z3 := Lib.hid ((hb1.block _ lZ).trans HZ.out); clear hb1 g0 g1 c0 c1; obtain ⟨c0, c1⟩ := geCells E3.out)
    | (go_at_call 45; rw [HFE.out]; refine (HCE.out _ B1.out).mono ?_; rintro e w2 ⟨rfl, hb2⟩; have B2 := Lib.hid (B1.out.trans (hb2.mono B1.out.size)); have D4 := Lib.hid ((hb2.block _ (row_lt D3.out)).trans D3.out); have E4 := Lib.hid ((hb2.block _ (row_lt E3.out)).trans E3.out); have Z4 := Lib.hid ((hb2.block _ (row_lt Z3.out)).trans Z3.out); have hbn := box_below w2 (.cells #[.bool false, .slice none 0 0] 45); have N5 := Lib.hid (heap_alloc_new w2 (.cells #[.bool false, .slice none 0 0] 45)); have E5 := Lib.hid ((hbn.block _ (row_lt E4.out)).trans E4.out); have B25 := Lib.hid hbn; have B5 := Lib.hid (B2.out.trans (hbn.mono B2.out.size)); clear hb2 hbn c0 c1; obtain ⟨c0, c1⟩ := geCells E4.out; have c0' := fun o => (World.cell?_alloc_lt w2 o _ (row_lt E4.out)).trans c0; have c1' := fun o => (World.cell?_alloc_lt w2 o _ (row_lt E4.out)).trans c1))
  rw [HFE.out]
  refine (HLK.out _ B5.out).mono ?_
  rintro e w3 ⟨rfl, hb3⟩
  have N6 := Lib.hid ((hb3.block _ (row_lt N5.out)).trans N5.out)
  have B26 := Lib.hid (B25.out.trans (hb3.mono B25.out.size))
  have n0f : w3.frozen? ⟨w2.heap.size, 0, none⟩ = false := frozen_of_row _ _ _ _ _ N6.out
  have n0 : w3.cell? ⟨w2.heap.size, 0, none⟩ = some (.bool false) := by rw [cell_of_row _ _ _ _ _ _ N6.out]; rfl
  have eW := Lib.hid (show w3.setCell ⟨w2.heap.size, 0, none⟩ (.bool ob) = w3.setRow w2.heap.size (au ob none 0 0) from setCell_eq_setRow w3 w2.heap.size 0 _ _ _ _ N6.out)
  have lG : w2.heap.size < w3.heap.size := row_lt N6.out
  have B7 := Lib.hid (show Below w2.heap.size w2 (w3.setCell ⟨w2.heap.size, 0, none⟩ (.bool ob)) from (by rw [eW.out]; exact below_setRow B26.out (Nat.le_refl _) _))
  have N7 := Lib.hid (show (w3.setCell ⟨w2.heap.size, 0, none⟩ (.bool ob)).heap[w2.heap.size]? = some (.cells (au ob none 0 0) 45 (0, 0)) from (by rw [eW.out]; exact setRow_heap _ _ _ _ _ _ N6.out))
  have D8 := Lib.hid ((B7.out.block _ (row_lt D4.out)).trans D4.out)
  clear hb3 c0 c1 c0' c1'
  obtain ⟨g0, g1⟩ := gdCells D8.out
  go_wp2_with fail
  go_loopw [46] (fun ii wr => ∃ k : Nat, k ≤ d.k.length ∧ ii = .int .i64 (k : Int) ∧ ARel w2.heap.size ob (idx m k) wr ∧ Below w2.heap.size w2 wr) (fun ii _ => d.k.length - (intOf ii).toNat)
  case atStart => exact ⟨0, by omega, rfl, ⟨none, 0, N7.out, own_nil _ _ _ _⟩, B7.out⟩
  case round =>
    obtain ⟨k, hk, rfl, ⟨A', c', hq, ho⟩, hbl⟩ := hrel
    have HBL := Lib.hid hbl
    have D9 := Lib.hid ((hbl.block _ (row_lt D4.out)).trans D4.out)
    have E9 := Lib.hid ((hbl.block _ (row_lt E4.out)).trans E4.out)
    have lR : w2.heap.size < wr.heap.size := row_lt hq
    by_cases hlt : k < d.k.length
    · obtain ⟨g0, g1⟩ := gdCells D9.out
      obtain ⟨c0, c1⟩ := geCells E9.out
      have hmy := HMY.out k wr (B2.out.trans (hbl.mono B2.out.size))
      rw [← HMM.out k] at hmy
      have hcn := cnt_le m k
      rw [idx_len] at hq ho
      have HQ := Lib.hid hq
      have HO := Lib.hid ho
      have HIT := Lib.hid (fun h => (idx_tt h : idx m (k + 1) = idx m k ++ [k]))
      have HIF := Lib.hid (fun h => (idx_ff h : idx m (k + 1) = idx m k))
      have HLN := Lib.hid (idx_len m k)
      generalize m k = bo at *
      have HY := Lib.hid hmy
      clear hq ho hbl hmy
      cases bo with
      | false =>
        have HIX := Lib.hid (HIF.out rfl)
        clear HIF HIT
        go_wp2_with (go_at_call 18; rw [HFD.out, HFE.out]; refine HY.out.mono ?_; rintro e w8 ⟨rfl, hb8⟩; have HAR := Lib.hid (arel_below (show ARel w2.heap.size ob (idx m k) wr from ⟨A', c', by rw [HLN.out]; exact HQ.out, by rw [HLN.out]; exact HO.out⟩) hb8); have B8 := Lib.hid (HBL.out.trans (hb8.mono HBL.out.size)); clear hb8 g0 g1 c0 c1)
        exact ⟨⟨k + 1, by omega, by go_num, by rw [HIX.out]; exact HAR.out, B8.out⟩, by simp [intOf]; omega⟩
      | true =>
        have HIX := Lib.hid (HIT.out rfl)
        clear HIF HIT
        go_wp2_with (first
          | (go_at_call 18; rw [HFD.out, HFE.out]; refine HY.out.mono ?_; rintro e w8 ⟨rfl, hb8⟩; have HQ8 := Lib.hid ((hb8.block _ (row_lt HQ.out)).trans HQ.out); have HO8 := Lib.hid (own_below HO.out hb8); have B8 := Lib.hid (HBL.out.trans (hb8.mono HBL.out.size)); have l8 : w2.heap.size < w8.heap.size := row_lt HQ8.out; obtain ⟨p0, p1⟩ := auCells HQ8.out; clear hb8 g0 g1 c0 c1)
          | (at_builtin; refine wpList_append_own _ rfl (.tmp 56) (.tmp 58) 22 rfl w2.heap.size 3 i0 (.int .i64 0) 1 8 Tryz.underlying22 HI.out HI0.out HI1.out HI2.out rfl (by decide) _ (cnt m k) (iv (idx m k)) rfl (HO8.out.alloc _) ⟨w8.heap.size, 0, none⟩ 1 1 [.int .i64 (k : Int)] rfl rfl (World.news_of_block (heap_alloc_new w8 _)) (by simp [Value.oneCell']) (by unfold maxLen; omega) (by omega) (by simp; omega) ?_; intro v' w12 hown hgr _; obtain ⟨A2, c2, rfl⟩ := own_form hown; have q12 := arel_q HLN.out HQ8.out HO8.out hgr; have Q12 := Lib.hid q12; have hadd := arel_add HLN.out HQ8.out HO8.out hgr hown; have HADD := Lib.hid hadd.1; have B12 := (B8.out.trans ((box_below _ _).mono B8.out.size)).grown hgr (by simp; omega) (fun g e => (HO8.out.lt g e).1); have BX := Lib.hid (show Below w2.heap.size w2 (w12.setCell ⟨w2.heap.size, 1, none⟩ (.slice A2 (cnt m k + 1) c2)) from (by rw [hadd.2]; exact below_setRow B12 (Nat.le_refl _) _)); clear hown hgr hadd B12; obtain ⟨r0, r1⟩ := auCells Q12.out; have r2 : w12.frozen? ⟨w2.heap.size, 1, none⟩ = false := frozen_of_row _ _ _ _ _ Q12.out; clear q12 p0 p1))
        exact ⟨⟨k + 1, by omega, by go_num, by rw [HIX.out]; exact HADD.out, BX.out⟩, by simp [intOf]; omega⟩
    · obtain rfl : k = d.k.length := by omega
      rw [idx_len] at hq ho
      have HQ := Lib.hid hq
      have HR := Lib.hid ((row_of_own ho).base (B' := w.heap.size) B2.out.size)
      have HL := Lib.hid (idx_len m d.k.length)
      have HRS := Lib.hid (show Row (wr.setRow (w.heap.size + 1 + 1) (au ob A' (cnt m d.k.length) c')) w.heap.size 1 A' (cnt m d.k.length) (iv (idx m d.k.length)) from (((row_of_own ho).set (by have := row_lt Z4.out; omega) _).base B2.out.size))
      have Z9 := Lib.hid ((hbl.block _ (row_lt Z4.out)).trans Z4.out)
      have lZ9 : w.heap.size + 1 + 1 < w2.heap.size := row_lt Z4.out
      have HBW := Lib.hid (B2.out.trans (hbl.mono B2.out.size))
      clear hq ho hbl
      go_wp2_with (first
        | (with_reducible (show wpList _ _ _ (⟨some 62, .load 45 (.tmp 12), _, _, _, _⟩ :: _) _ _); refine wpList_load_row (o := ⟨some 62, .load 45 (.tmp 12), _, _, _, _⟩) rfl 45 (.tmp 12) rfl w2.heap.size rfl 45 (au ob A' (cnt m d.k.length) c') (0, 0) _ HQ.out Tryz.underlying45 rfl (info47 _ _ _ _) ?_)
        | (with_reducible (show wpList _ _ _ (⟨none, .store 45 (.tmp 8) (.tmp 62), _, _, _, _⟩ :: _) _ _); refine wpList_store_row (o := ⟨none, .store 45 (.tmp 8) (.tmp 62), _, _, _, _⟩) rfl 45 (.tmp 8) (.tmp 62) rfl (w.heap.size + 1 + 1) (au ob A' (cnt m d.k.length) c') rfl rfl 45 #[.bool false, .slice none 0 0] Z9.out (info47 _ _ _ _) rfl (au_one _ _ _ _) ?_))
      refine bodyPost_ret (v := .tuple #[.agg (au ob A' (cnt m d.k.length) c'), .int .i64 0]) (results_cell_row2 (fn := Tryz.f15) (p := 8) (u := 9) rfl _ _ (w.heap.size + 1 + 1) 45 (au ob A' (cnt m d.k.length) c') (0, 0) _ rfl (setRow_heap _ _ _ _ _ _ Z9.out) Tryz.underlying45 rfl (info47 _ _ _ _)) rfl ⟨A', c', rfl, HRS.out, below_setRow HBW.out (by omega) _⟩

end Go.Proofs.YtgknfkmojhganaaGreat.Di

namespace Go.Proofs.YtgknfkmojhganaaGreat.Di
open Go.RowKit
open Go.Proofs.YtgknfkmojhganaaGreat.Tp
set_option linter.unusedVariables false
set_option linter.unusedSimpArgs false

/-- The reference finds an estate valid. -/
def VaY (a : Es) (v : Ve) (w : World) : Prop := ∀ w', Below w.heap.size w w' → Calls Tryz.prog 47 #[.agg (ge a v)] w' fun e w2 => e = .returned (.bool true) ∧ Below w'.heap.size w' w2
theorem VaY.below {a : Es} {v : Ve} {w w' : World} (h : VaY a v w) (hb : Below w.heap.size w w') : VaY a v w' := fun w2 h2 => h w2 (hb.trans (h2.mono hb.size))
set_option maxRecDepth 100000 in
set_option maxHeartbeats 400000 in
theorem place_yes (a : Es) (v : Ve) (p : Int) (w : World) (h : VaY a v w) (hn : 1 ≤ a.n ∧ a.n ≤ 16) (hp : 0 ≤ p ∧ p < a.n) :
    Calls Tryz.prog 42 #[.agg (ge a v), .int .i64 p] w fun e w' => e = .returned (.bool true) ∧ Below w.heap.size w w' := by
  have HB0 := Lib.hid (box_below w (.cells (ge a v) 28))
  have HR0 := Lib.hid (heap_alloc_new w (.cells (ge a v) 28))
  obtain ⟨c0, c1⟩ := geCells HR0.out
  have HCK := Lib.hid (h _ HB0.out)
  have hw : IntKind.i64.wrap (a.n - 1) = a.n - 1 := IntWalk.i64_in _ (by omega)
  have HF := Lib.hid (show (#[.int .i64 a.n, .slice v.A a.e.length v.c] : Array Value) = ge a v from rfl)
  clear h
  go_enter Tryz.func42, Tryz.ntmps42
  go_wp2_with (first
    | (go_at_call 47; rw [HF.out]; refine HCK.out.mono ?_; rintro e w1 ⟨rfl, hb1⟩; have HB1 := Lib.hid (HB0.out.trans (hb1.mono HB0.out.size)); have M1 := Lib.hid ((hb1.block _ (row_lt HR0.out)).trans HR0.out); clear hb1 c0 c1; obtain ⟨c0, c1⟩ := geCells M1.out)
    | (go_at_call 80; (with_reducible refine (in_yes (by omega) (by omega) _).mono ?_); rintro e wq ⟨rfl, rfl⟩))
  go_ret
  exact ⟨by first | rfl | simp, HB1.out⟩
theorem vay_of {a : Es} {v : Ve} {w : World} (h : EL w 0 a v) (hok : Eok a) : VaY a v w := fun w' hb => valid_yes a v w' (Row.below h hb) hok
set_option maxRecDepth 100000 in
set_option maxHeartbeats 2000000 in
/-- The reference's direct. -/
theorem rdirect_any (d : Dy) (v : Vd) (p g t : Nat) (w : World) (h : DL w 0 d v) (hm : d.e.length ≤ 1000) :
    Calls Tryz.prog 99 #[.agg (gd d v), .int .i64 (p : Int), .int .i64 (g : Int), .int .i64 (t : Int)] w fun e w' => e = .returned (.bool (dm d t p g)) ∧ Below w.heap.size w w' := by
  have HB0 := Lib.hid (box_below w (.cells (gd d v) 25))
  have R0 := Lib.hid (heap_alloc_new w (.cells (gd d v) 25))
  have HR := Lib.hid (h.below HB0.out).r2
  obtain ⟨g0, g1⟩ := gdCells R0.out
  clear h
  have HDM := Lib.hid (show dmk d t p g d.e.length = dm d t p g from rfl)
  have HSK := Lib.hid (show ∀ k, dmk d t p g (k + 1) = if hitm (eg d k) t p g then (eg d k).k == 1 else dmk d t p g k from fun k => rfl)
  go_enter Tryz.func99, Tryz.ntmps99
  go_wp2_with fail
  go_loopw [9, 15] (fun bv ii wr => ∃ k : Nat, k ≤ d.e.length ∧ bv = .bool (dmk d t p g k) ∧ ii = .int .i64 (k : Int) ∧ Below (w.alloc (.cells (gd d v) 25)).heap.size (w.alloc (.cells (gd d v) 25)) wr) (fun _ ii _ => d.e.length - (intOf ii).toNat)
  case atStart => exact ⟨0, by omega, rfl, rfl, Below.refl _ _⟩
  case round =>
    obtain ⟨k, hk, rfl, rfl, hbl⟩ := hrel
    have HBL := Lib.hid hbl
    by_cases hlt : k < d.e.length
    · obtain ⟨b, off, hA, -, hbk, y0, y1, y2, y3⟩ := (HR.out.below hbl).evt hlt
      have HA := Lib.hid hA
      rw [show d.e.getD k m0 = eg d k from rfl] at y0 y1 y2 y3
      have hs := HSK.out k
      have HIT := Lib.hid (hitm_iff (eg d k) t p g)
      obtain ⟨bn, hbn⟩ : ∃ bn, dmk d t p g (k + 1) = bn := ⟨_, rfl⟩
      rw [hbn] at hs
      have HN := Lib.hid hbn
      clear hbn
      generalize dmk d t p g k = bo at *
      generalize eg d k = x at *
      obtain ⟨xt, xk, xp, xg⟩ := x
      simp only at y0 y1 y2 y3 hs
      have hit := HIT.out
      simp only at hit
      have hbx := box_below wr (.cells #[.int .i64 (xt : Int), .int .i64 (xk : Int), .int .i64 (xp : Int), .int .i64 (xg : Int)] 79)
      have BX := Lib.hid (hbl.trans (hbx.mono hbl.size))
      have XN := Lib.hid (heap_alloc_new wr (.cells #[.int .i64 (xt : Int), .int .i64 (xk : Int), .int .i64 (xp : Int), .int .i64 (xg : Int)] 79))
      have n0 : (wr.alloc (.cells #[.int .i64 (xt : Int), .int .i64 (xk : Int), .int .i64 (xp : Int), .int .i64 (xg : Int)] 79)).cell? ⟨wr.heap.size, 0, none⟩ = some (.int .i64 (xt : Int)) := by rw [cell_of_row _ _ _ _ _ _ XN.out]; rfl
      have n1 : (wr.alloc (.cells #[.int .i64 (xt : Int), .int .i64 (xk : Int), .int .i64 (xp : Int), .int .i64 (xg : Int)] 79)).cell? ⟨wr.heap.size, 1, none⟩ = some (.int .i64 (xk : Int)) := by rw [cell_of_row _ _ _ _ _ _ XN.out]; rfl
      have n2 : (wr.alloc (.cells #[.int .i64 (xt : Int), .int .i64 (xk : Int), .int .i64 (xp : Int), .int .i64 (xg : Int)] 79)).cell? ⟨wr.heap.size, 2, none⟩ = some (.int .i64 (xp : Int)) := by rw [cell_of_row _ _ _ _ _ _ XN.out]; rfl
      have n3 : (wr.alloc (.cells #[.int .i64 (xt : Int), .int .i64 (xk : Int), .int .i64 (xp : Int), .int .i64 (xg : Int)] 79)).cell? ⟨wr.heap.size, 3, none⟩ = some (.int .i64 (xg : Int)) := by rw [cell_of_row _ _ _ _ _ _ XN.out]; rfl
      rw [hA]
      have i0 : (0 : Int) ≤ (k : Int) := by omega
      have i1 : (k : Int) < (d.e.length : Int) := by omega
      clear hbx hbl hA HIT
      by_cases h1 : xt ≤ t
      · have e1 : decide ((xt : Int) ≤ (t : Int)) = true := decide_eq_true (by omega)
        by_cases h2 : xp = p
        · have e2 : ((xp : Int) == (p : Int)) = true := by rw [h2]; simp
          have e2' : (xp == p) = true := by rw [h2]; simp
          by_cases h3 : xg = g
          · have e3 : ((xg : Int) == (g : Int)) = true := by rw [h3]; simp
            have e3' : (xg == g) = true := by rw [h3]; simp
            have HS := Lib.hid (show bn = ((xk : Int) == 1) by
              rw [hs, if_pos (hit.2 ⟨h1, h2, h3⟩)]
              by_cases e : xk = 1
              · rw [e]; rfl
              · rw [beq_eq_false_iff_ne.2 e, beq_eq_false_iff_ne.2 (by omega)])
            clear h2 h3 hs hit
            go_wp2_with fail
            exact ⟨⟨k + 1, by omega, by rw [HN.out, HS.out], by go_num, BX.out⟩, by simp [intOf]; omega⟩
          · have e3 : ((xg : Int) == (g : Int)) = false := beq_eq_false_iff_ne.2 (by omega)
            have e3' : (xg == g) = false := beq_eq_false_iff_ne.2 h3
            have HS := Lib.hid (show bn = bo by rw [hs, if_neg (fun h => h3 (hit.1 h).2.2)])
            clear h2 h3 hs hit
            go_wp2_with fail
            exact ⟨⟨k + 1, by omega, by rw [HN.out, HS.out], by go_num, BX.out⟩, by simp [intOf]; omega⟩
        · have e2 : ((xp : Int) == (p : Int)) = false := beq_eq_false_iff_ne.2 (by omega)
          have e2' : (xp == p) = false := beq_eq_false_iff_ne.2 h2
          have HS := Lib.hid (show bn = bo by rw [hs, if_neg (fun h => h2 (hit.1 h).2.1)])
          clear h2 hs hit
          go_wp2_with fail
          exact ⟨⟨k + 1, by omega, by rw [HN.out, HS.out], by go_num, BX.out⟩, by simp [intOf]; omega⟩
      · have e1 : decide ((xt : Int) ≤ (t : Int)) = false := decide_eq_false (by omega)
        have HS := Lib.hid (show bn = bo by rw [hs, if_neg (fun h => h1 (hit.1 h).1)])
        clear hs hit
        go_wp2_with fail
        exact ⟨⟨k + 1, by omega, by rw [HN.out, HS.out], by go_num, BX.out⟩, by simp [intOf]; omega⟩
    · obtain rfl : k = d.e.length := by omega
      have BF := Lib.hid (HB0.out.trans (hbl.mono HB0.out.size))
      clear hbl
      go_wp2_with fail
      go_ret
      exact ⟨by first | rfl | simp, BF.out⟩

end Go.Proofs.YtgknfkmojhganaaGreat.Di

namespace Go.Proofs.YtgknfkmojhganaaGreat.Di
open Go.RowKit
open Go.Proofs.YtgknfkmojhganaaGreat.Tp
set_option linter.unusedVariables false
set_option linter.unusedSimpArgs false

set_option maxRecDepth 100000 in
set_option maxHeartbeats 400000 in
theorem rin_yes {x l h : Int} (h1 : l ≤ x) (h2 : x ≤ h) (w : World) : Calls Tryz.prog 78 #[.int .i64 x, .int .i64 l, .int .i64 h] w fun e w' => e = .returned (.bool true) ∧ w' = w := by
  have d1 : decide (l ≤ x) = true := decide_eq_true h1
  have d2 : decide (x ≤ h) = true := decide_eq_true h2
  clear h1 h2
  go_enter Tryz.func78, Tryz.ntmps78
  go_wp2_with fail
  go_ret
  exact ⟨by first | rfl | simp, rfl⟩
-- GEN
set_option maxRecDepth 100000 in
set_option maxHeartbeats 16000000 in
/-- The reference finds a good directory valid. -/
theorem rvalid_any (d : Dy) (v : Vd) (w : World) (h : DL w 0 d v) (hok : Ok d) :
    Calls Tryz.prog 41 #[.agg (gd d v)] w fun e w' => e = .returned (.bool true) ∧ Below w.heap.size w w' := by
  have hn := hok.n
  have hm := hok.m
  have HB0 := Lib.hid (box_below w (.cells (gd d v) 25))
  have R0 := Lib.hid (heap_alloc_new w (.cells (gd d v) 25))
  have HD := Lib.hid (h.below HB0.out)
  have HOK := Lib.hid hok
  have d1 : decide ((24 : Int) < (d.k.length : Int)) = false := decide_eq_false (by omega)
  have d2 : decide ((120 : Int) < (d.e.length : Int)) = false := decide_eq_false (by omega)
  have HEX := Lib.hid (fun (p : Nat) w' => rexists_any d v p w' (by omega))
  have HGR := Lib.hid (fun (p : Nat) w' (hb : Below (w.alloc (.cells (gd d v) 25)).heap.size (w.alloc (.cells (gd d v) 25)) w') => rgroup_any 0 d v p w' (HD.out.below hb) (by omega))
  have HF := Lib.hid (show (#[.slice v.A1 d.k.length v.c1, .slice v.A2 d.e.length v.c2] : Array Value) = gd d v from rfl)
  obtain ⟨g0, g1⟩ := gdCells R0.out
  have lQ := row_lt R0.out
  clear h hok
  go_enter Tryz.func41, Tryz.ntmps41
  go_wp2_with fail
  clear g0 g1
  have HB1 := Lib.hid HB0.out
  go_loopw [20] (fun ii wr => ∃ k : Nat, k ≤ d.k.length ∧ ii = .int .i64 (k : Int) ∧ Below (w.alloc (.cells (gd d v) 25)).heap.size (w.alloc (.cells (gd d v) 25)) wr) (fun ii _ => d.k.length - (intOf ii).toNat)
  case atStart => exact ⟨0, by omega, rfl, Below.refl _ _⟩
  case round =>
    obtain ⟨k, hk, rfl, hbl⟩ := hrel
    have HBL := Lib.hid hbl
    by_cases hlt : k < d.k.length
    · obtain ⟨b, off, hA, -, lb, y0⟩ := (HD.out.below hbl).r1.int hlt
      have hkk := HOK.out.k k hlt
      have hK : d.k.getD k 0 = kd d k := rfl
      rw [hK] at y0
      generalize kd d k = x at *
      have i0 : (0 : Int) ≤ (k : Int) := by omega
      have i1 : (k : Int) < (d.k.length : Int) := by omega
      rw [hA]
      clear hbl hA hK
      have HIK := Lib.hid (fun w' => rin_yes (x := (x : Int)) (l := 1) (h := 3) (by omega) (by omega) w')
      clear hkk
      go_wp2_with (go_at_call 78; (with_reducible refine (HIK.out _).mono ?_); rintro e w7 ⟨rfl, rfl⟩)
      exact ⟨⟨k + 1, by omega, by go_num, HBL.out⟩, by simp [intOf]; omega⟩
    · obtain rfl : k = d.k.length := by omega
      have R9 := Lib.hid ((hbl.block _ lQ).trans R0.out)
      obtain ⟨g0, g1⟩ := gdCells R9.out
      rename World => wy
      have HBY := Lib.hid hbl
      clear hbl
      go_wp2_with fail
      clear g0 g1
      go_loopw [31] (fun ii wr => ∃ k : Nat, k ≤ d.e.length ∧ ii = .int .i64 (k : Int) ∧ Below wy.heap.size wy wr) (fun ii _ => d.e.length - (intOf ii).toNat)
      case atStart => exact ⟨0, by omega, rfl, Below.refl _ _⟩
      case round =>
        obtain ⟨k, hk, rfl, hbl⟩ := hrel
        rename World => wr
        have HBL := Lib.hid hbl
        by_cases hlt : k < d.e.length
        · have hb0 := HBY.out.trans (hbl.mono HBY.out.size)
          have HB9 := Lib.hid hb0
          obtain ⟨b, off, hA, -, hbk, y0, y1, y2, y3⟩ := (HD.out.below hb0).r2.evt hlt
          have hHE := fun j (hj : k = j + 1) w' (hw : Below wr.heap.size wr w') => (HD.out.below (hb0.trans (hw.mono hb0.size))).r2.evt (show j < d.e.length by omega)
          have hup := fun j (hj : k = j + 1) => (by have := HOK.out.up j (by omega); rw [← hj] at this; exact this : (eg d j).t ≤ (eg d k).t)
          have hev := HOK.out.e k hlt
          rw [show d.e.getD k m0 = eg d k from rfl] at y0 y1 y2 y3
          generalize eg d k = x at *
          obtain ⟨xt, xk, xp, xg⟩ := x
          obtain ⟨a1, a2, a3, a4, a5, a6⟩ := hev
          simp only at y0 y1 y2 y3 a1 a2 a3 a4 a5 a6 hup
          have HI1 := Lib.hid (fun w' => rin_yes (x := (xk : Int)) (l := 1) (h := 2) (by omega) (by omega) w')
          have HI2 := Lib.hid (fun w' => rin_yes (x := (xt : Int)) (l := 0) (h := 1099511627776) (by omega) (by omega) w')
          have hgb : gB d xg = true := by unfold gB; rw [decide_eq_true a4, Bool.true_and]; exact beq_iff_eq.2 a5
          have e9 : ((xp : Int) == (xg : Int)) = false := beq_eq_false_iff_ne.2 (by omega)
          have HA := Lib.hid hA
          have hgd : gd d v = #[.slice v.A1 d.k.length v.c1, .slice (some ⟨b, off, none⟩) d.e.length v.c2] := by unfold gd; rw [hA]
          have HEX2 := Lib.hid (show ∀ w', Calls Tryz.prog 57 #[.agg #[.slice v.A1 d.k.length v.c1, .slice (some ⟨b, off, none⟩) d.e.length v.c2], .int .i64 (xp : Int)] w' fun e w'' => e = .returned (.bool true) ∧ Below w'.heap.size w' w'' from fun w' => by have h5 := HEX.out xp w'; rw [decide_eq_true a3, hgd] at h5; exact h5)
          have HGR2 := Lib.hid (show ∀ w', Below (w.alloc (.cells (gd d v) 25)).heap.size (w.alloc (.cells (gd d v) 25)) w' → Calls Tryz.prog 79 #[.agg #[.slice v.A1 d.k.length v.c1, .slice (some ⟨b, off, none⟩) d.e.length v.c2], .int .i64 (xg : Int)] w' fun e w'' => e = .returned (.bool true) ∧ Below w'.heap.size w' w'' from fun w' hw => by have h5 := HGR.out xg w' hw; rw [hgb, hgd] at h5; exact h5)
          have R8 := Lib.hid ((hb0.block _ lQ).trans R0.out)
          have hbx := box_below wr (.cells #[.int .i64 (xt : Int), .int .i64 (xk : Int), .int .i64 (xp : Int), .int .i64 (xg : Int)] 79)
          have BX := Lib.hid (hbl.trans (hbx.mono hbl.size))
          have BX9 := Lib.hid (hb0.trans (hbx.mono hb0.size))
          have XN := Lib.hid (heap_alloc_new wr (.cells #[.int .i64 (xt : Int), .int .i64 (xk : Int), .int .i64 (xp : Int), .int .i64 (xg : Int)] 79))
          have QX := Lib.hid ((hbx.block _ (row_lt R8.out)).trans R8.out)
          have i0 : (0 : Int) ≤ (k : Int) := by omega
          have i1 : (k : Int) < (d.e.length : Int) := by omega
          have HHE := Lib.hid hHE
          have HUP := Lib.hid hup
          have lwr : wr.heap.size < (wr.alloc (.cells #[.int .i64 (xt : Int), .int .i64 (xk : Int), .int .i64 (xp : Int), .int .i64 (xg : Int)] 79)).heap.size := by simp
          have B19 := Lib.hid hbx
          rw [hA]
          clear hgb hgd hHE hup hbx hbl hb0 hA
          by_cases h0 : k = 0
          · subst h0
            simp only [Nat.zero_mul, Nat.add_zero] at y0 y1 y2 y3
            clear HUP HHE
            go_wp2_with fail
            have XN2 := Lib.hid (show ((wr.alloc (.cells #[.int .i64 (xt : Int), .int .i64 (xk : Int), .int .i64 (xp : Int), .int .i64 (xg : Int)] 79))).heap[wr.heap.size]? = some (.cells #[.int .i64 (xt : Int), .int .i64 (xk : Int), .int .i64 (xp : Int), .int .i64 (xg : Int)] 79 (0, 0)) from XN.out)
            clear XN
            generalize hwx : (wr.alloc (.cells #[.int .i64 (xt : Int), .int .i64 (xk : Int), .int .i64 (xp : Int), .int .i64 (xg : Int)] 79)) = wx at *
            have HKP := Lib.hid (fun w' (hb : Below wx.heap.size wx w') => (by
              have q7 := (hb.block _ (row_lt QX.out)).trans QX.out
              have m7 := (hb.block _ (row_lt XN2.out)).trans XN2.out
              obtain ⟨e0, e1⟩ := gdCells q7
              rw [HA.out] at e1
              exact ⟨e0, e1, by rw [cell_of_row _ _ _ _ _ _ m7]; rfl, by rw [cell_of_row _ _ _ _ _ _ m7]; rfl, by rw [cell_of_row _ _ _ _ _ _ m7]; rfl, by rw [cell_of_row _ _ _ _ _ _ m7]; rfl, hb⟩ : (fun w' => w'.cell? ⟨w.heap.size, 0, none⟩ = some (.slice v.A1 d.k.length v.c1) ∧ w'.cell? ⟨w.heap.size, 1, none⟩ = some (.slice (some ⟨b, off, none⟩) d.e.length v.c2) ∧ w'.cell? ⟨wr.heap.size, 0, none⟩ = some (.int .i64 (xt : Int)) ∧ w'.cell? ⟨wr.heap.size, 1, none⟩ = some (.int .i64 (xk : Int)) ∧ w'.cell? ⟨wr.heap.size, 2, none⟩ = some (.int .i64 (xp : Int)) ∧ w'.cell? ⟨wr.heap.size, 3, none⟩ = some (.int .i64 (xg : Int)) ∧ Below wx.heap.size wx w') w'))
            have HGB := Lib.hid (fun w' (hb : Below wx.heap.size wx w') => HGR2.out w' (BX9.out.trans (hb.mono BX9.out.size)))
            have bd9 : Below wx.heap.size wx wx := Below.refl _ _
            have bd0 : Below wx.heap.size wx wx.drew := bd9.drew
            clear hwx
            refine wp_region_held_drew (S := fun w' => w'.cell? ⟨w.heap.size, 0, none⟩ = some (.slice v.A1 d.k.length v.c1) ∧ w'.cell? ⟨w.heap.size, 1, none⟩ = some (.slice (some ⟨b, off, none⟩) d.e.length v.c2) ∧ w'.cell? ⟨wr.heap.size, 0, none⟩ = some (.int .i64 (xt : Int)) ∧ w'.cell? ⟨wr.heap.size, 1, none⟩ = some (.int .i64 (xk : Int)) ∧ w'.cell? ⟨wr.heap.size, 2, none⟩ = some (.int .i64 (xp : Int)) ∧ w'.cell? ⟨wr.heap.size, 3, none⟩ = some (.int .i64 (xg : Int)) ∧ Below wx.heap.size wx w') (by kernel_rfl) ?_ (fun hHeld => ?_)
            · exact HKP.out _ bd0
            refine wpAnyH_take (i := 0) (oi := { dst := some 36, op := Op.fieldAddr 79 (Operand.tmp 6) 1, type := 0, pos := "ref.go:31", after := #[], guard := none }) (v := ?v0) rfl (by kernel_rfl) (by kernel_rfl) (by kernel_rfl) (fun _ _ _ h => h) (Or.inl ⟨by rfl, ?y0⟩) (by assumption) ?r0
            case y0 => (intro w hSw; (try dsimp only at hSw); go_simp; try with_reducible rfl)
            try simp only [List.getElem_toArray, List.getElem_cons_succ, List.getElem_cons_zero, Act.put, List.setIfInBounds_toArray, List.set_cons_zero, List.set_cons_succ]
            refine wpAnyH_take (i := 1) (oi := { dst := some 37, op := Op.load 3 (Operand.tmp 36), type := 3, pos := "ref.go:31", after := #[{ on := 0, ground := Ground.data }], guard := none }) (v := ?v1) rfl (by kernel_rfl) (by kernel_rfl) (by kernel_rfl) (fun _ _ _ h => h) (Or.inl ⟨by rfl, ?y1⟩) (by assumption) ?r1
            case y1 => (intro w hSw; (try dsimp only at hSw); go_simp; try with_reducible rfl)
            try simp only [List.getElem_toArray, List.getElem_cons_succ, List.getElem_cons_zero, Act.put, List.setIfInBounds_toArray, List.set_cons_zero, List.set_cons_succ]
            refine wpAnyH_ready (rs := [2]) (by kernel_rfl) (by simp) ?_
            refine AllReadyH.cons rfl (fun K hK => ?_) AllReadyH.nil
            go_simp
            go_at_call 78
            (with_reducible refine (HI1.out _).mono ?_)
            rintro e w5 ⟨rfl, rfl⟩
            refine hK.out _ _ ?_ (fun hHeld => ?_)
            · exact HKP.out _ bd0
            clear hK K
            try simp only [List.getElem_toArray, List.getElem_cons_succ, List.getElem_cons_zero, Act.put, List.setIfInBounds_toArray, List.set_cons_zero, List.set_cons_succ]
            refine wpAnyH_take (i := 3) (oi := { dst := some 39, op := Op.unOp UnOp.not 4 (Operand.tmp 38), type := 4, pos := "ref.go:31", after := #[{ on := 2, ground := Ground.data }], guard := none }) (v := ?v3) rfl (by kernel_rfl) (by kernel_rfl) (by kernel_rfl) (fun _ _ _ h => h) (Or.inl ⟨by rfl, ?y3⟩) (by assumption) ?r3
            case y3 => (intro w hSw; (try dsimp only at hSw); go_simp; try with_reducible rfl)
            try simp only [List.getElem_toArray, List.getElem_cons_succ, List.getElem_cons_zero, Act.put, List.setIfInBounds_toArray, List.set_cons_zero, List.set_cons_succ]
            refine wpAnyH_take (i := 4) (oi := { dst := some 40, op := Op.move (Operand.tmp 39), type := 4, pos := "ref.go:31", after := #[{ on := 3, ground := Ground.data }, { on := 2, ground := Ground.chain }], guard := none }) (v := ?v4) rfl (by kernel_rfl) (by kernel_rfl) (by kernel_rfl) (fun _ _ _ h => h) (Or.inl ⟨by rfl, ?y4⟩) (by assumption) ?r4
            case y4 => (intro w hSw; (try dsimp only at hSw); go_simp; try with_reducible rfl)
            try simp only [List.getElem_toArray, List.getElem_cons_succ, List.getElem_cons_zero, Act.put, List.setIfInBounds_toArray, List.set_cons_zero, List.set_cons_succ]
            refine wpAnyH_take (i := 5) (oi := { dst := some 41, op := Op.fieldAddr 79 (Operand.tmp 6) 0, type := 0, pos := "ref.go:31", after := #[{ on := 4, ground := Ground.guard }], guard := some (4, false) }) (v := ?v5) rfl (by kernel_rfl) (by kernel_rfl) (by kernel_rfl) (fun _ _ _ h => h) (Or.inl ⟨by rfl, ?y5⟩) (by assumption) ?r5
            case y5 => (intro w hSw; (try dsimp only at hSw); go_simp; try with_reducible rfl)
            try simp only [List.getElem_toArray, List.getElem_cons_succ, List.getElem_cons_zero, Act.put, List.setIfInBounds_toArray, List.set_cons_zero, List.set_cons_succ]
            refine wpAnyH_take (i := 6) (oi := { dst := some 42, op := Op.load 3 (Operand.tmp 41), type := 3, pos := "ref.go:31", after := #[{ on := 5, ground := Ground.data }, { on := 4, ground := Ground.guard }], guard := some (4, false) }) (v := ?v6) rfl (by kernel_rfl) (by kernel_rfl) (by kernel_rfl) (fun _ _ _ h => h) (Or.inl ⟨by rfl, ?y6⟩) (by assumption) ?r6
            case y6 => (intro w hSw; (try dsimp only at hSw); go_simp; try with_reducible rfl)
            try simp only [List.getElem_toArray, List.getElem_cons_succ, List.getElem_cons_zero, Act.put, List.setIfInBounds_toArray, List.set_cons_zero, List.set_cons_succ]
            refine wpAnyH_ready (rs := [7]) (by kernel_rfl) (by simp) ?_
            refine AllReadyH.cons rfl (fun K hK => ?_) AllReadyH.nil
            go_simp
            go_at_call 78
            (with_reducible refine (HI2.out _).mono ?_)
            rintro e w5 ⟨rfl, rfl⟩
            refine hK.out _ _ ?_ (fun hHeld => ?_)
            · exact HKP.out _ bd0
            clear hK K
            try simp only [List.getElem_toArray, List.getElem_cons_succ, List.getElem_cons_zero, Act.put, List.setIfInBounds_toArray, List.set_cons_zero, List.set_cons_succ]
            refine wpAnyH_take (i := 8) (oi := { dst := some 44, op := Op.unOp UnOp.not 4 (Operand.tmp 43), type := 4, pos := "ref.go:31", after := #[{ on := 7, ground := Ground.data }, { on := 4, ground := Ground.guard }], guard := some (4, false) }) (v := ?v8) rfl (by kernel_rfl) (by kernel_rfl) (by kernel_rfl) (fun _ _ _ h => h) (Or.inl ⟨by rfl, ?y8⟩) (by assumption) ?r8
            case y8 => (intro w hSw; (try dsimp only at hSw); go_simp; try with_reducible rfl)
            try simp only [List.getElem_toArray, List.getElem_cons_succ, List.getElem_cons_zero, Act.put, List.setIfInBounds_toArray, List.set_cons_zero, List.set_cons_succ]
            refine wpAnyH_take (i := 9) (oi := { dst := some 45, op := Op.pick (Operand.tmp 40) (Operand.const (Value.bool true)) (Operand.tmp 44), type := 4, pos := "ref.go:31", after := #[{ on := 4, ground := Ground.data }, { on := 8, ground := Ground.data }], guard := none }) (v := ?v9) rfl (by kernel_rfl) (by kernel_rfl) (by kernel_rfl) (fun _ _ _ h => h) (Or.inl ⟨by rfl, ?y9⟩) (by assumption) ?r9
            case y9 => (intro w hSw; (try dsimp only at hSw); go_simp; try with_reducible rfl)
            try simp only [List.getElem_toArray, List.getElem_cons_succ, List.getElem_cons_zero, Act.put, List.setIfInBounds_toArray, List.set_cons_zero, List.set_cons_succ]
            refine wpAnyH_take (i := 10) (oi := { dst := some 46, op := Op.move (Operand.tmp 45), type := 4, pos := "ref.go:31", after := #[{ on := 9, ground := Ground.data }, { on := 7, ground := Ground.chain }], guard := none }) (v := ?v10) rfl (by kernel_rfl) (by kernel_rfl) (by kernel_rfl) (fun _ _ _ h => h) (Or.inl ⟨by rfl, ?y10⟩) (by assumption) ?r10
            case y10 => (intro w hSw; (try dsimp only at hSw); go_simp; try with_reducible rfl)
            try simp only [List.getElem_toArray, List.getElem_cons_succ, List.getElem_cons_zero, Act.put, List.setIfInBounds_toArray, List.set_cons_zero, List.set_cons_succ]
            refine wpAnyH_take (i := 11) (oi := { dst := some 47, op := Op.move (Operand.tmp 5), type := 3, pos := "ref.go:31", after := #[{ on := 10, ground := Ground.guard }], guard := some (10, false) }) (v := ?v11) rfl (by kernel_rfl) (by kernel_rfl) (by kernel_rfl) (fun _ _ _ h => h) (Or.inl ⟨by rfl, ?y11⟩) (by assumption) ?r11
            case y11 => (intro w hSw; (try dsimp only at hSw); go_simp; try with_reducible rfl)
            try simp only [List.getElem_toArray, List.getElem_cons_succ, List.getElem_cons_zero, Act.put, List.setIfInBounds_toArray, List.set_cons_zero, List.set_cons_succ]
            refine wpAnyH_take (i := 12) (oi := { dst := some 48, op := Op.binOp BinOp.gtr 3 (Operand.tmp 47) (Operand.const (Value.int IntKind.i64 0)) 3, type := 4, pos := "ref.go:31", after := #[{ on := 11, ground := Ground.data }, { on := 10, ground := Ground.guard }], guard := some (10, false) }) (v := ?v12) rfl (by kernel_rfl) (by kernel_rfl) (by kernel_rfl) (fun _ _ _ h => h) (Or.inl ⟨by rfl, ?y12⟩) (by assumption) ?r12
            case y12 => (intro w hSw; (try dsimp only at hSw); go_simp; try with_reducible rfl)
            try simp only [List.getElem_toArray, List.getElem_cons_succ, List.getElem_cons_zero, Act.put, List.setIfInBounds_toArray, List.set_cons_zero, List.set_cons_succ]
            refine wpAnyH_take (i := 13) (oi := { dst := some 49, op := Op.move (Operand.tmp 48), type := 4, pos := "ref.go:31", after := #[{ on := 12, ground := Ground.data }, { on := 10, ground := Ground.chain }, { on := 10, ground := Ground.guard }], guard := some (10, false) }) (v := ?v13) rfl (by kernel_rfl) (by kernel_rfl) (by kernel_rfl) (fun _ _ _ h => h) (Or.inl ⟨by rfl, ?y13⟩) (by assumption) ?r13
            case y13 => (intro w hSw; (try dsimp only at hSw); go_simp; try with_reducible rfl)
            try simp only [List.getElem_toArray, List.getElem_cons_succ, List.getElem_cons_zero, Act.put, List.setIfInBounds_toArray, List.set_cons_zero, List.set_cons_succ]
            refine wpAnyH_take (i := 14) (oi := { dst := some 50, op := Op.fieldAddr 79 (Operand.tmp 6) 0, type := 0, pos := "ref.go:31", after := #[{ on := 13, ground := Ground.guard }], guard := some (13, true) }) (v := undef) rfl (by kernel_rfl) (by kernel_rfl) (by kernel_rfl) (fun _ _ _ h => h) (Or.inr ⟨by rfl, rfl⟩) (by assumption) ?_
            try simp only [List.getElem_toArray, List.getElem_cons_succ, List.getElem_cons_zero, Act.put, List.setIfInBounds_toArray, List.set_cons_zero, List.set_cons_succ]
            refine wpAnyH_take (i := 15) (oi := { dst := some 51, op := Op.load 3 (Operand.tmp 50), type := 3, pos := "ref.go:31", after := #[{ on := 14, ground := Ground.data }, { on := 13, ground := Ground.guard }], guard := some (13, true) }) (v := undef) rfl (by kernel_rfl) (by kernel_rfl) (by kernel_rfl) (fun _ _ _ h => h) (Or.inr ⟨by rfl, rfl⟩) (by assumption) ?_
            try simp only [List.getElem_toArray, List.getElem_cons_succ, List.getElem_cons_zero, Act.put, List.setIfInBounds_toArray, List.set_cons_zero, List.set_cons_succ]
            refine wpAnyH_take (i := 16) (oi := { dst := some 52, op := Op.fieldAddr 25 (Operand.tmp 1) 1, type := 0, pos := "ref.go:31", after := #[{ on := 13, ground := Ground.guard }], guard := some (13, true) }) (v := undef) rfl (by kernel_rfl) (by kernel_rfl) (by kernel_rfl) (fun _ _ _ h => h) (Or.inr ⟨by rfl, rfl⟩) (by assumption) ?_
            try simp only [List.getElem_toArray, List.getElem_cons_succ, List.getElem_cons_zero, Act.put, List.setIfInBounds_toArray, List.set_cons_zero, List.set_cons_succ]
            refine wpAnyH_take (i := 17) (oi := { dst := some 53, op := Op.load 23 (Operand.tmp 52), type := 23, pos := "ref.go:31", after := #[{ on := 16, ground := Ground.data }, { on := 13, ground := Ground.guard }], guard := some (13, true) }) (v := undef) rfl (by kernel_rfl) (by kernel_rfl) (by kernel_rfl) (fun _ _ _ h => h) (Or.inr ⟨by rfl, rfl⟩) (by assumption) ?_
            try simp only [List.getElem_toArray, List.getElem_cons_succ, List.getElem_cons_zero, Act.put, List.setIfInBounds_toArray, List.set_cons_zero, List.set_cons_succ]
            refine wpAnyH_take (i := 18) (oi := { dst := some 54, op := Op.move (Operand.tmp 5), type := 3, pos := "ref.go:31", after := #[{ on := 13, ground := Ground.guard }], guard := some (13, true) }) (v := undef) rfl (by kernel_rfl) (by kernel_rfl) (by kernel_rfl) (fun _ _ _ h => h) (Or.inr ⟨by rfl, rfl⟩) (by assumption) ?_
            try simp only [List.getElem_toArray, List.getElem_cons_succ, List.getElem_cons_zero, Act.put, List.setIfInBounds_toArray, List.set_cons_zero, List.set_cons_succ]
            refine wpAnyH_take (i := 19) (oi := { dst := some 55, op := Op.binOp BinOp.sub 3 (Operand.tmp 54) (Operand.const (Value.int IntKind.i64 1)) 3, type := 3, pos := "ref.go:31", after := #[{ on := 18, ground := Ground.data }, { on := 13, ground := Ground.guard }], guard := some (13, true) }) (v := undef) rfl (by kernel_rfl) (by kernel_rfl) (by kernel_rfl) (fun _ _ _ h => h) (Or.inr ⟨by rfl, rfl⟩) (by assumption) ?_
            try simp only [List.getElem_toArray, List.getElem_cons_succ, List.getElem_cons_zero, Act.put, List.setIfInBounds_toArray, List.set_cons_zero, List.set_cons_succ]
            refine wpAnyH_take (i := 20) (oi := { dst := some 56, op := Op.indexAddr 23 (Operand.tmp 53) (Operand.tmp 55), type := 0, pos := "ref.go:31", after := #[{ on := 17, ground := Ground.data }, { on := 19, ground := Ground.data }, { on := 13, ground := Ground.guard }], guard := some (13, true) }) (v := undef) rfl (by kernel_rfl) (by kernel_rfl) (by kernel_rfl) (fun _ _ _ h => h) (Or.inr ⟨by rfl, rfl⟩) (by assumption) ?_
            try simp only [List.getElem_toArray, List.getElem_cons_succ, List.getElem_cons_zero, Act.put, List.setIfInBounds_toArray, List.set_cons_zero, List.set_cons_succ]
            refine wpAnyH_take (i := 21) (oi := { dst := some 57, op := Op.fieldAddr 79 (Operand.tmp 56) 0, type := 0, pos := "ref.go:31", after := #[{ on := 20, ground := Ground.data }, { on := 13, ground := Ground.guard }], guard := some (13, true) }) (v := undef) rfl (by kernel_rfl) (by kernel_rfl) (by kernel_rfl) (fun _ _ _ h => h) (Or.inr ⟨by rfl, rfl⟩) (by assumption) ?_
            try simp only [List.getElem_toArray, List.getElem_cons_succ, List.getElem_cons_zero, Act.put, List.setIfInBounds_toArray, List.set_cons_zero, List.set_cons_succ]
            refine wpAnyH_take (i := 22) (oi := { dst := some 58, op := Op.load 3 (Operand.tmp 57), type := 3, pos := "ref.go:31", after := #[{ on := 21, ground := Ground.data }, { on := 13, ground := Ground.guard }], guard := some (13, true) }) (v := undef) rfl (by kernel_rfl) (by kernel_rfl) (by kernel_rfl) (fun _ _ _ h => h) (Or.inr ⟨by rfl, rfl⟩) (by assumption) ?_
            try simp only [List.getElem_toArray, List.getElem_cons_succ, List.getElem_cons_zero, Act.put, List.setIfInBounds_toArray, List.set_cons_zero, List.set_cons_succ]
            refine wpAnyH_take (i := 23) (oi := { dst := some 59, op := Op.binOp BinOp.lss 3 (Operand.tmp 51) (Operand.tmp 58) 3, type := 4, pos := "ref.go:31", after := #[{ on := 15, ground := Ground.data }, { on := 22, ground := Ground.data }, { on := 13, ground := Ground.guard }], guard := some (13, true) }) (v := undef) rfl (by kernel_rfl) (by kernel_rfl) (by kernel_rfl) (fun _ _ _ h => h) (Or.inr ⟨by rfl, rfl⟩) (by assumption) ?_
            try simp only [List.getElem_toArray, List.getElem_cons_succ, List.getElem_cons_zero, Act.put, List.setIfInBounds_toArray, List.set_cons_zero, List.set_cons_succ]
            refine wpAnyH_take (i := 24) (oi := { dst := some 60, op := Op.pick (Operand.tmp 49) (Operand.tmp 59) (Operand.const (Value.bool false)), type := 4, pos := "ref.go:31", after := #[{ on := 13, ground := Ground.data }, { on := 23, ground := Ground.data }, { on := 10, ground := Ground.guard }], guard := some (10, false) }) (v := ?v24) rfl (by kernel_rfl) (by kernel_rfl) (by kernel_rfl) (fun _ _ _ h => h) (Or.inl ⟨by rfl, ?y24⟩) (by assumption) ?r24
            case y24 => (intro w hSw; (try dsimp only at hSw); go_simp; try with_reducible rfl)
            try simp only [List.getElem_toArray, List.getElem_cons_succ, List.getElem_cons_zero, Act.put, List.setIfInBounds_toArray, List.set_cons_zero, List.set_cons_succ]
            refine wpAnyH_take (i := 25) (oi := { dst := some 61, op := Op.pick (Operand.tmp 46) (Operand.const (Value.bool true)) (Operand.tmp 60), type := 4, pos := "ref.go:31", after := #[{ on := 10, ground := Ground.data }, { on := 24, ground := Ground.data }], guard := none }) (v := ?v25) rfl (by kernel_rfl) (by kernel_rfl) (by kernel_rfl) (fun _ _ _ h => h) (Or.inl ⟨by rfl, ?y25⟩) (by assumption) ?r25
            case y25 => (intro w hSw; (try dsimp only at hSw); go_simp; try with_reducible rfl)
            try simp only [List.getElem_toArray, List.getElem_cons_succ, List.getElem_cons_zero, Act.put, List.setIfInBounds_toArray, List.set_cons_zero, List.set_cons_succ]
            refine wpAnyH_take (i := 26) (oi := { dst := some 62, op := Op.move (Operand.tmp 61), type := 4, pos := "ref.go:31", after := #[{ on := 25, ground := Ground.data }, { on := 13, ground := Ground.chain }], guard := none }) (v := ?v26) rfl (by kernel_rfl) (by kernel_rfl) (by kernel_rfl) (fun _ _ _ h => h) (Or.inl ⟨by rfl, ?y26⟩) (by assumption) ?r26
            case y26 => (intro w hSw; (try dsimp only at hSw); go_simp; try with_reducible rfl)
            try simp only [List.getElem_toArray, List.getElem_cons_succ, List.getElem_cons_zero, Act.put, List.setIfInBounds_toArray, List.set_cons_zero, List.set_cons_succ]
            refine wpAnyH_take (i := 27) (oi := { dst := some 63, op := Op.load 25 (Operand.tmp 1), type := 25, pos := "ref.go:31", after := #[{ on := 26, ground := Ground.guard }], guard := some (26, false) }) (v := ?v27) rfl (by kernel_rfl) (by kernel_rfl) (by kernel_rfl) (fun _ _ _ h => h) (Or.inl ⟨by rfl, ?y27⟩) (by assumption) ?r27
            case y27 => (intro w hSw; (try dsimp only at hSw); go_simp; try with_reducible rfl)
            try simp only [List.getElem_toArray, List.getElem_cons_succ, List.getElem_cons_zero, Act.put, List.setIfInBounds_toArray, List.set_cons_zero, List.set_cons_succ]
            refine wpAnyH_take (i := 28) (oi := { dst := some 64, op := Op.fieldAddr 79 (Operand.tmp 6) 2, type := 0, pos := "ref.go:31", after := #[{ on := 26, ground := Ground.guard }], guard := some (26, false) }) (v := ?v28) rfl (by kernel_rfl) (by kernel_rfl) (by kernel_rfl) (fun _ _ _ h => h) (Or.inl ⟨by rfl, ?y28⟩) (by assumption) ?r28
            case y28 => (intro w hSw; (try dsimp only at hSw); go_simp; try with_reducible rfl)
            try simp only [List.getElem_toArray, List.getElem_cons_succ, List.getElem_cons_zero, Act.put, List.setIfInBounds_toArray, List.set_cons_zero, List.set_cons_succ]
            refine wpAnyH_take (i := 29) (oi := { dst := some 65, op := Op.load 3 (Operand.tmp 64), type := 3, pos := "ref.go:31", after := #[{ on := 28, ground := Ground.data }, { on := 26, ground := Ground.guard }], guard := some (26, false) }) (v := ?v29) rfl (by kernel_rfl) (by kernel_rfl) (by kernel_rfl) (fun _ _ _ h => h) (Or.inl ⟨by rfl, ?y29⟩) (by assumption) ?r29
            case y29 => (intro w hSw; (try dsimp only at hSw); go_simp; try with_reducible rfl)
            try simp only [List.getElem_toArray, List.getElem_cons_succ, List.getElem_cons_zero, Act.put, List.setIfInBounds_toArray, List.set_cons_zero, List.set_cons_succ]
            refine wpAnyH_ready (rs := [30]) (by kernel_rfl) (by simp) ?_
            refine AllReadyH.cons rfl (fun K hK => ?_) AllReadyH.nil
            go_simp
            go_at_call 57
            (with_reducible refine (HEX2.out _).mono ?_)
            rintro e w7 ⟨rfl, hb7⟩
            have b7 : Below wx.heap.size wx w7 := bd0.trans (hb7.mono bd0.size)
            clear hb7
            refine hK.out _ _ ?_ (fun hHeld => ?_)
            · exact HKP.out _ b7
            clear hK K
            try simp only [List.getElem_toArray, List.getElem_cons_succ, List.getElem_cons_zero, Act.put, List.setIfInBounds_toArray, List.set_cons_zero, List.set_cons_succ]
            refine wpAnyH_take (i := 31) (oi := { dst := some 67, op := Op.unOp UnOp.not 4 (Operand.tmp 66), type := 4, pos := "ref.go:31", after := #[{ on := 30, ground := Ground.data }, { on := 26, ground := Ground.guard }], guard := some (26, false) }) (v := ?v31) rfl (by kernel_rfl) (by kernel_rfl) (by kernel_rfl) (fun _ _ _ h => h) (Or.inl ⟨by rfl, ?y31⟩) (by assumption) ?r31
            case y31 => (intro w hSw; (try dsimp only at hSw); go_simp; try with_reducible rfl)
            try simp only [List.getElem_toArray, List.getElem_cons_succ, List.getElem_cons_zero, Act.put, List.setIfInBounds_toArray, List.set_cons_zero, List.set_cons_succ]
            refine wpAnyH_take (i := 32) (oi := { dst := some 68, op := Op.pick (Operand.tmp 62) (Operand.const (Value.bool true)) (Operand.tmp 67), type := 4, pos := "ref.go:31", after := #[{ on := 26, ground := Ground.data }, { on := 31, ground := Ground.data }], guard := none }) (v := ?v32) rfl (by kernel_rfl) (by kernel_rfl) (by kernel_rfl) (fun _ _ _ h => h) (Or.inl ⟨by rfl, ?y32⟩) (by assumption) ?r32
            case y32 => (intro w hSw; (try dsimp only at hSw); go_simp; try with_reducible rfl)
            try simp only [List.getElem_toArray, List.getElem_cons_succ, List.getElem_cons_zero, Act.put, List.setIfInBounds_toArray, List.set_cons_zero, List.set_cons_succ]
            refine wpAnyH_take (i := 33) (oi := { dst := some 69, op := Op.move (Operand.tmp 68), type := 4, pos := "ref.go:31", after := #[{ on := 32, ground := Ground.data }, { on := 30, ground := Ground.chain }], guard := none }) (v := ?v33) rfl (by kernel_rfl) (by kernel_rfl) (by kernel_rfl) (fun _ _ _ h => h) (Or.inl ⟨by rfl, ?y33⟩) (by assumption) ?r33
            case y33 => (intro w hSw; (try dsimp only at hSw); go_simp; try with_reducible rfl)
            try simp only [List.getElem_toArray, List.getElem_cons_succ, List.getElem_cons_zero, Act.put, List.setIfInBounds_toArray, List.set_cons_zero, List.set_cons_succ]
            refine wpAnyH_take (i := 34) (oi := { dst := some 70, op := Op.load 25 (Operand.tmp 1), type := 25, pos := "ref.go:31", after := #[{ on := 33, ground := Ground.guard }], guard := some (33, false) }) (v := ?v34) rfl (by kernel_rfl) (by kernel_rfl) (by kernel_rfl) (fun _ _ _ h => h) (Or.inl ⟨by rfl, ?y34⟩) (by assumption) ?r34
            case y34 => (intro w hSw; (try dsimp only at hSw); go_simp; try with_reducible rfl)
            try simp only [List.getElem_toArray, List.getElem_cons_succ, List.getElem_cons_zero, Act.put, List.setIfInBounds_toArray, List.set_cons_zero, List.set_cons_succ]
            refine wpAnyH_take (i := 35) (oi := { dst := some 71, op := Op.fieldAddr 79 (Operand.tmp 6) 3, type := 0, pos := "ref.go:31", after := #[{ on := 33, ground := Ground.guard }], guard := some (33, false) }) (v := ?v35) rfl (by kernel_rfl) (by kernel_rfl) (by kernel_rfl) (fun _ _ _ h => h) (Or.inl ⟨by rfl, ?y35⟩) (by assumption) ?r35
            case y35 => (intro w hSw; (try dsimp only at hSw); go_simp; try with_reducible rfl)
            try simp only [List.getElem_toArray, List.getElem_cons_succ, List.getElem_cons_zero, Act.put, List.setIfInBounds_toArray, List.set_cons_zero, List.set_cons_succ]
            refine wpAnyH_take (i := 36) (oi := { dst := some 72, op := Op.load 3 (Operand.tmp 71), type := 3, pos := "ref.go:31", after := #[{ on := 35, ground := Ground.data }, { on := 33, ground := Ground.guard }], guard := some (33, false) }) (v := ?v36) rfl (by kernel_rfl) (by kernel_rfl) (by kernel_rfl) (fun _ _ _ h => h) (Or.inl ⟨by rfl, ?y36⟩) (by assumption) ?r36
            case y36 => (intro w hSw; (try dsimp only at hSw); go_simp; try with_reducible rfl)
            try simp only [List.getElem_toArray, List.getElem_cons_succ, List.getElem_cons_zero, Act.put, List.setIfInBounds_toArray, List.set_cons_zero, List.set_cons_succ]
            refine wpAnyH_ready (rs := [37]) (by kernel_rfl) (by simp) ?_
            refine AllReadyH.cons rfl (fun K hK => ?_) AllReadyH.nil
            go_simp
            go_at_call 79
            (with_reducible refine (HGB.out _ b7).mono ?_)
            rintro e w8 ⟨rfl, hb8⟩
            have b8 : Below wx.heap.size wx w8 := b7.trans (hb8.mono b7.size)
            clear hb8
            refine hK.out _ _ ?_ (fun hHeld => ?_)
            · exact HKP.out _ b8
            clear hK K
            try simp only [List.getElem_toArray, List.getElem_cons_succ, List.getElem_cons_zero, Act.put, List.setIfInBounds_toArray, List.set_cons_zero, List.set_cons_succ]
            refine wpAnyH_take (i := 38) (oi := { dst := some 74, op := Op.unOp UnOp.not 4 (Operand.tmp 73), type := 4, pos := "ref.go:31", after := #[{ on := 37, ground := Ground.data }, { on := 33, ground := Ground.guard }], guard := some (33, false) }) (v := ?v38) rfl (by kernel_rfl) (by kernel_rfl) (by kernel_rfl) (fun _ _ _ h => h) (Or.inl ⟨by rfl, ?y38⟩) (by assumption) ?r38
            case y38 => (intro w hSw; (try dsimp only at hSw); go_simp; try with_reducible rfl)
            try simp only [List.getElem_toArray, List.getElem_cons_succ, List.getElem_cons_zero, Act.put, List.setIfInBounds_toArray, List.set_cons_zero, List.set_cons_succ]
            refine wpAnyH_take (i := 39) (oi := { dst := some 75, op := Op.pick (Operand.tmp 69) (Operand.const (Value.bool true)) (Operand.tmp 74), type := 4, pos := "ref.go:31", after := #[{ on := 33, ground := Ground.data }, { on := 38, ground := Ground.data }], guard := none }) (v := ?v39) rfl (by kernel_rfl) (by kernel_rfl) (by kernel_rfl) (fun _ _ _ h => h) (Or.inl ⟨by rfl, ?y39⟩) (by assumption) ?r39
            case y39 => (intro w hSw; (try dsimp only at hSw); go_simp; try with_reducible rfl)
            try simp only [List.getElem_toArray, List.getElem_cons_succ, List.getElem_cons_zero, Act.put, List.setIfInBounds_toArray, List.set_cons_zero, List.set_cons_succ]
            refine wpAnyH_take (i := 40) (oi := { dst := some 76, op := Op.move (Operand.tmp 75), type := 4, pos := "ref.go:31", after := #[{ on := 39, ground := Ground.data }, { on := 37, ground := Ground.chain }], guard := none }) (v := ?v40) rfl (by kernel_rfl) (by kernel_rfl) (by kernel_rfl) (fun _ _ _ h => h) (Or.inl ⟨by rfl, ?y40⟩) (by assumption) ?r40
            case y40 => (intro w hSw; (try dsimp only at hSw); go_simp; try with_reducible rfl)
            try simp only [List.getElem_toArray, List.getElem_cons_succ, List.getElem_cons_zero, Act.put, List.setIfInBounds_toArray, List.set_cons_zero, List.set_cons_succ]
            refine wpAnyH_take (i := 41) (oi := { dst := some 77, op := Op.fieldAddr 79 (Operand.tmp 6) 2, type := 0, pos := "ref.go:31", after := #[{ on := 40, ground := Ground.guard }], guard := some (40, false) }) (v := ?v41) rfl (by kernel_rfl) (by kernel_rfl) (by kernel_rfl) (fun _ _ _ h => h) (Or.inl ⟨by rfl, ?y41⟩) (by assumption) ?r41
            case y41 => (intro w hSw; (try dsimp only at hSw); go_simp; try with_reducible rfl)
            try simp only [List.getElem_toArray, List.getElem_cons_succ, List.getElem_cons_zero, Act.put, List.setIfInBounds_toArray, List.set_cons_zero, List.set_cons_succ]
            refine wpAnyH_take (i := 42) (oi := { dst := some 78, op := Op.load 3 (Operand.tmp 77), type := 3, pos := "ref.go:31", after := #[{ on := 41, ground := Ground.data }, { on := 40, ground := Ground.guard }], guard := some (40, false) }) (v := ?v42) rfl (by kernel_rfl) (by kernel_rfl) (by kernel_rfl) (fun _ _ _ h => h) (Or.inl ⟨by rfl, ?y42⟩) (by assumption) ?r42
            case y42 => (intro w hSw; (try dsimp only at hSw); go_simp; try with_reducible rfl)
            try simp only [List.getElem_toArray, List.getElem_cons_succ, List.getElem_cons_zero, Act.put, List.setIfInBounds_toArray, List.set_cons_zero, List.set_cons_succ]
            refine wpAnyH_take (i := 43) (oi := { dst := some 79, op := Op.fieldAddr 79 (Operand.tmp 6) 3, type := 0, pos := "ref.go:31", after := #[{ on := 40, ground := Ground.guard }], guard := some (40, false) }) (v := ?v43) rfl (by kernel_rfl) (by kernel_rfl) (by kernel_rfl) (fun _ _ _ h => h) (Or.inl ⟨by rfl, ?y43⟩) (by assumption) ?r43
            case y43 => (intro w hSw; (try dsimp only at hSw); go_simp; try with_reducible rfl)
            try simp only [List.getElem_toArray, List.getElem_cons_succ, List.getElem_cons_zero, Act.put, List.setIfInBounds_toArray, List.set_cons_zero, List.set_cons_succ]
            refine wpAnyH_take (i := 44) (oi := { dst := some 80, op := Op.load 3 (Operand.tmp 79), type := 3, pos := "ref.go:31", after := #[{ on := 43, ground := Ground.data }, { on := 40, ground := Ground.guard }], guard := some (40, false) }) (v := ?v44) rfl (by kernel_rfl) (by kernel_rfl) (by kernel_rfl) (fun _ _ _ h => h) (Or.inl ⟨by rfl, ?y44⟩) (by assumption) ?r44
            case y44 => (intro w hSw; (try dsimp only at hSw); go_simp; try with_reducible rfl)
            try simp only [List.getElem_toArray, List.getElem_cons_succ, List.getElem_cons_zero, Act.put, List.setIfInBounds_toArray, List.set_cons_zero, List.set_cons_succ]
            refine wpAnyH_take (i := 45) (oi := { dst := some 81, op := Op.binOp BinOp.eql 3 (Operand.tmp 78) (Operand.tmp 80) 3, type := 4, pos := "ref.go:31", after := #[{ on := 42, ground := Ground.data }, { on := 44, ground := Ground.data }, { on := 40, ground := Ground.guard }], guard := some (40, false) }) (v := ?v45) rfl (by kernel_rfl) (by kernel_rfl) (by kernel_rfl) (fun _ _ _ h => h) (Or.inl ⟨by rfl, ?y45⟩) (by assumption) ?r45
            case y45 => (intro w hSw; (try dsimp only at hSw); go_simp; try with_reducible rfl)
            try simp only [List.getElem_toArray, List.getElem_cons_succ, List.getElem_cons_zero, Act.put, List.setIfInBounds_toArray, List.set_cons_zero, List.set_cons_succ]
            refine wpAnyH_take (i := 46) (oi := { dst := some 82, op := Op.pick (Operand.tmp 76) (Operand.const (Value.bool true)) (Operand.tmp 81), type := 4, pos := "ref.go:31", after := #[{ on := 40, ground := Ground.data }, { on := 45, ground := Ground.data }], guard := none }) (v := ?v46) rfl (by kernel_rfl) (by kernel_rfl) (by kernel_rfl) (fun _ _ _ h => h) (Or.inl ⟨by rfl, ?y46⟩) (by assumption) ?r46
            case y46 => (intro w hSw; (try dsimp only at hSw); go_simp; try with_reducible rfl)
            try simp only [List.getElem_toArray, List.getElem_cons_succ, List.getElem_cons_zero, Act.put, List.setIfInBounds_toArray, List.set_cons_zero, List.set_cons_succ]
            refine wpAnyH_done (by kernel_rfl) ?_ _
            have P7 := Lib.hid (BX.out.trans (b8.mono BX.out.size))
            clear b7 b8 bd9 bd0
            go_wp2_with fail
            exact ⟨⟨1, by omega, by go_num, P7.out⟩, by simp [intOf]; omega⟩
          · obtain ⟨j, rfl⟩ : ∃ j, k = j + 1 := ⟨k - 1, by omega⟩
            have hUJ := HUP.out j rfl
            obtain ⟨yt, hyt⟩ : ∃ yt, (eg d j).t = yt := ⟨_, rfl⟩
            rw [hyt] at hUJ
            have HYT := Lib.hid hyt
            have d3 : decide ((xt : Int) < (yt : Int)) = false := decide_eq_false (by omega)
            have d3n : decide (xt < yt) = false := decide_eq_false (by omega)
            have d3m : ¬ xt < yt := by omega
            have e9n : (xp == xg) = false := beq_eq_false_iff_ne.2 a6
            have l0 : (0 : Int) ≤ (j : Int) := by omega
            have l1 : (j : Int) < (d.e.length : Int) := by omega
            have hw0 : IntKind.i64.wrap (j : Int) = (j : Int) := IntWalk.i64_in _ (by omega)
            have hw1 : IntKind.i64.wrap ((j : Int) + 1 - 1) = (j : Int) := by rw [show (j : Int) + 1 - 1 = (j : Int) by omega]; exact hw0
            have l3 : j < d.e.length := by omega
            have l4 : (j : Int) ≤ (d.e.length : Int) := by omega
            clear h0 hyt
            go_wp2_with fail
            have XN2 := Lib.hid (show ((wr.alloc (.cells #[.int .i64 (xt : Int), .int .i64 (xk : Int), .int .i64 (xp : Int), .int .i64 (xg : Int)] 79))).heap[wr.heap.size]? = some (.cells #[.int .i64 (xt : Int), .int .i64 (xk : Int), .int .i64 (xp : Int), .int .i64 (xg : Int)] 79 (0, 0)) from XN.out)
            clear XN
            generalize hwx : (wr.alloc (.cells #[.int .i64 (xt : Int), .int .i64 (xk : Int), .int .i64 (xp : Int), .int .i64 (xg : Int)] 79)) = wx at *
            have HKP := Lib.hid (fun w' (hb : Below wx.heap.size wx w') => (by
              have q7 := (hb.block _ (row_lt QX.out)).trans QX.out
              have m7 := (hb.block _ (row_lt XN2.out)).trans XN2.out
              obtain ⟨e0, e1⟩ := gdCells q7
              rw [HA.out] at e1
              obtain ⟨b', off', hA', -, hbk', u0, -⟩ := HHE.out j rfl w' (B19.out.trans (hb.mono B19.out.size))
              rw [HA.out] at hA'
              cases hA'
              rw [show d.e.getD j m0 = eg d j from rfl, HYT.out] at u0
              exact ⟨e0, e1, by rw [cell_of_row _ _ _ _ _ _ m7]; rfl, by rw [cell_of_row _ _ _ _ _ _ m7]; rfl, by rw [cell_of_row _ _ _ _ _ _ m7]; rfl, by rw [cell_of_row _ _ _ _ _ _ m7]; rfl, u0, hb⟩ : (fun w' => w'.cell? ⟨w.heap.size, 0, none⟩ = some (.slice v.A1 d.k.length v.c1) ∧ w'.cell? ⟨w.heap.size, 1, none⟩ = some (.slice (some ⟨b, off, none⟩) d.e.length v.c2) ∧ w'.cell? ⟨wr.heap.size, 0, none⟩ = some (.int .i64 (xt : Int)) ∧ w'.cell? ⟨wr.heap.size, 1, none⟩ = some (.int .i64 (xk : Int)) ∧ w'.cell? ⟨wr.heap.size, 2, none⟩ = some (.int .i64 (xp : Int)) ∧ w'.cell? ⟨wr.heap.size, 3, none⟩ = some (.int .i64 (xg : Int)) ∧ w'.cell? ⟨b, off + j * 4, none⟩ = some (.int .i64 (yt : Int)) ∧ Below wx.heap.size wx w') w'))
            have HGB := Lib.hid (fun w' (hb : Below wx.heap.size wx w') => HGR2.out w' (BX9.out.trans (hb.mono BX9.out.size)))
            have bd9 : Below wx.heap.size wx wx := Below.refl _ _
            have bd0 : Below wx.heap.size wx wx.drew := bd9.drew
            clear hwx
            go_region_held3 (fun w' => w'.cell? ⟨w.heap.size, 0, none⟩ = some (.slice v.A1 d.k.length v.c1) ∧ w'.cell? ⟨w.heap.size, 1, none⟩ = some (.slice (some ⟨b, off, none⟩) d.e.length v.c2) ∧ w'.cell? ⟨wr.heap.size, 0, none⟩ = some (.int .i64 (xt : Int)) ∧ w'.cell? ⟨wr.heap.size, 1, none⟩ = some (.int .i64 (xk : Int)) ∧ w'.cell? ⟨wr.heap.size, 2, none⟩ = some (.int .i64 (xp : Int)) ∧ w'.cell? ⟨wr.heap.size, 3, none⟩ = some (.int .i64 (xg : Int)) ∧ w'.cell? ⟨b, off + j * 4, none⟩ = some (.int .i64 (yt : Int)) ∧ Below wx.heap.size wx w')
              (first | (with_reducible assumption) | (with_reducible exact HKP.out _ bd9) | (with_reducible exact HKP.out _ bd0) | (with_reducible exact HKP.out _ b7) | (with_reducible exact HKP.out _ b8))
              (first
                | (go_at_call 78; (with_reducible refine (HI1.out _).mono ?_); rintro e w5 ⟨rfl, rfl⟩)
                | (go_at_call 78; (with_reducible refine (HI2.out _).mono ?_); rintro e w6 ⟨rfl, rfl⟩)
                | (go_at_call 57; (with_reducible refine (HEX2.out _).mono ?_); rintro e w7 ⟨rfl, hb7⟩; go_split_ands; have b7 : Below wx.heap.size wx w7 := Below.trans (by with_reducible assumption) (hb7.mono (Below.size (by with_reducible assumption))); clear hb7)
                | (go_at_call 79; (with_reducible refine (HGB.out _ ?_).mono ?_); (go_split_ands; with_reducible assumption); rintro e w8 ⟨rfl, hb8⟩; go_split_ands; have b8 : Below wx.heap.size wx w8 := Below.trans (by with_reducible assumption) (hb8.mono (Below.size (by with_reducible assumption))); clear hb8))
            go_split_ands
            have P7 := Lib.hid (BX.out.trans (b8.mono BX.out.size))
            clear b7 b8 bd9 bd0
            go_wp2_with fail
            exact ⟨⟨j + 1 + 1, by omega, by go_num, P7.out⟩, by simp [intOf]; omega⟩
        · obtain rfl : k = d.e.length := by omega
          have HBZ := Lib.hid (HB1.out.trans ((HBY.out.trans (hbl.mono HBY.out.size)).mono HB1.out.size))
          clear hbl
          go_wp2_with fail
          go_ret
          exact ⟨by first | rfl | simp, HBZ.out⟩

end Go.Proofs.YtgknfkmojhganaaGreat.Di

namespace Go.Proofs.YtgknfkmojhganaaGreat.Di
open Go.RowKit
open Go.Proofs.YtgknfkmojhganaaGreat.Tp
set_option linter.unusedVariables false
set_option linter.unusedSimpArgs false

/-- A number of an event; -1 without. -/
def gI (o : Option Nat) : Int := o.elim (-1) (fun k => (k : Int))
set_option maxRecDepth 100000 in
set_option maxHeartbeats 2000000 in
/-- The reference's grant. -/
theorem rgrant_any (a : Es) (v : Ve) (P r t : Int) (w : World) (h : EL w 0 a v) (hm : a.e.length ≤ 1000) :
    Calls Tryz.prog 98 #[.agg (ge a v), .int .i64 P, .int .i64 r, .int .i64 t] w fun e w' => e = .returned (.int .i64 (gI (grA a.e P t r))) ∧ Below w.heap.size w w' := by
  obtain ⟨A, vc⟩ := v
  have HB0 := Lib.hid (box_below w (.cells (ge a ⟨A, vc⟩) 28))
  have R0 := Lib.hid (heap_alloc_new w (.cells (ge a ⟨A, vc⟩) 28))
  have HE := Lib.hid (Row.below h HB0.out)
  obtain ⟨g0, g1⟩ := geCells R0.out
  clear h
  have HSK := Lib.hid (show ∀ k, gr a.e P t r (k + 1) = if t < (ag a.e k).t ∨ (ag a.e k).p ≠ P then gr a.e P t r k else if (ag a.e k).k = 1 then (if (ag a.e k).r = r then some k else gr a.e P t r k) else if (ag a.e k).k = 2 then (if (ag a.e k).r = r then none else gr a.e P t r k) else gr a.e P t r k from fun k => rfl)
  go_enter Tryz.func98, Tryz.ntmps98
  go_wp2_with fail
  go_loopw [9, 15] (fun bv ii wr => ∃ k : Nat, k ≤ a.e.length ∧ bv = .int .i64 (gI (gr a.e P t r k)) ∧ ii = .int .i64 (k : Int) ∧ Below (w.alloc (.cells (ge a ⟨A, vc⟩) 28)).heap.size (w.alloc (.cells (ge a ⟨A, vc⟩) 28)) wr) (fun _ ii _ => a.e.length - (intOf ii).toNat)
  case atStart => exact ⟨0, by omega, rfl, rfl, Below.refl _ _⟩
  case round =>
    obtain ⟨k, hk, rfl, rfl, hbl⟩ := hrel
    have HBL := Lib.hid hbl
    by_cases hlt : k < a.e.length
    · obtain ⟨b, off, hA, -, hbk, hac⟩ := Row.ac (HE.out.below hbl) hlt
      have hA : A = some ⟨b, off, none⟩ := hA
      subst hA
      obtain ⟨y0, y1, y2, y3, y4, y5, y6⟩ := hac
      have hs := HSK.out k
      obtain ⟨bn, hbn⟩ : ∃ bn, gr a.e P t r (k + 1) = bn := ⟨_, rfl⟩
      rw [hbn] at hs
      have HN := Lib.hid hbn
      clear hbn
      generalize gr a.e P t r k = bo at *
      generalize ag a.e k = x at *
      obtain ⟨xt, xk, xp, xr, xu, xc, xf⟩ := x
      simp only at y0 y1 y2 y3 y4 y5 y6 hs
      have hbx := box_below wr (.cells #[.int .i64 xt, .int .i64 xk, .int .i64 xp, .int .i64 xr, .int .i64 xu, .int .i64 xc, .int .i64 xf] 76)
      have BX := Lib.hid (hbl.trans (hbx.mono hbl.size))
      have XN := Lib.hid (heap_alloc_new wr (.cells #[.int .i64 xt, .int .i64 xk, .int .i64 xp, .int .i64 xr, .int .i64 xu, .int .i64 xc, .int .i64 xf] 76))
      obtain ⟨n0, n1, n2, n3, n4, n5, n6⟩ := accCells (x := ⟨xt, xk, xp, xr, xu, xc, xf⟩) XN.out
      simp only at n0 n1 n2 n3 n4 n5 n6
      have i0 : (0 : Int) ≤ (k : Int) := by omega
      have i1 : (k : Int) < (a.e.length : Int) := by omega
      clear hbx hbl
      by_cases h1 : t < xt
      · have e1 : decide (t < xt) = true := decide_eq_true h1
        have HS := Lib.hid (show bn = bo by rw [hs, if_pos (.inl h1)])
        clear hs h1
        go_wp2_with fail
        exact ⟨⟨k + 1, by omega, by rw [HN.out, HS.out], by go_num, BX.out⟩, by simp [intOf]; omega⟩
      · have e1 : decide (t < xt) = false := decide_eq_false h1
        by_cases h2 : xp = P
        · have e2 : (xp != P) = false := by rw [h2]; simp
          rw [if_neg (by omega)] at hs
          by_cases h3 : xr = r
          · have e3 : (xr != r) = false := by rw [h3]; simp
            rw [if_pos h3, if_pos h3] at hs
            by_cases h4 : xk = 1
            · have e4 : (xk == 1) = true := by rw [h4]; rfl
              have HS := Lib.hid (show gI bn = (k : Int) by rw [hs, if_pos h4]; rfl)
              clear hs h1 h2 h3 h4
              go_wp2_with fail
              exact ⟨⟨k + 1, by omega, by rw [HN.out, HS.out], by go_num, BX.out⟩, by simp [intOf]; omega⟩
            · have e4 : (xk == 1) = false := beq_eq_false_iff_ne.2 h4
              rw [if_neg h4] at hs
              by_cases h5 : xk = 2
              · have e5 : (xk == 2) = true := by rw [h5]; rfl
                have HS := Lib.hid (show gI bn = -1 by rw [hs, if_pos h5]; rfl)
                clear hs h1 h2 h3 h4 h5
                go_wp2_with fail
                exact ⟨⟨k + 1, by omega, by rw [HN.out, HS.out], by go_num, BX.out⟩, by simp [intOf]; omega⟩
              · have e5 : (xk == 2) = false := beq_eq_false_iff_ne.2 h5
                have HS := Lib.hid (show bn = bo by rw [hs, if_neg h5])
                clear hs h1 h2 h3 h4 h5
                go_wp2_with fail
                exact ⟨⟨k + 1, by omega, by rw [HN.out, HS.out], by go_num, BX.out⟩, by simp [intOf]; omega⟩
          · have e3 : (xr != r) = true := bne_iff_ne.2 h3
            have HS := Lib.hid (show bn = bo by rw [hs, if_neg h3, if_neg h3]; split <;> (try split) <;> rfl)
            clear hs h1 h2 h3
            go_wp2_with fail
            exact ⟨⟨k + 1, by omega, by rw [HN.out, HS.out], by go_num, BX.out⟩, by simp [intOf]; omega⟩
        · have e2 : (xp != P) = true := bne_iff_ne.2 h2
          have HS := Lib.hid (show bn = bo by rw [hs, if_pos (.inr h2)])
          clear hs h1 h2
          go_wp2_with fail
          exact ⟨⟨k + 1, by omega, by rw [HN.out, HS.out], by go_num, BX.out⟩, by simp [intOf]; omega⟩
    · obtain rfl : k = a.e.length := by omega
      have BF := Lib.hid (HB0.out.trans (hbl.mono HB0.out.size))
      clear hbl
      go_wp2_with fail
      go_ret
      exact ⟨by first | rfl | simp [grA], BF.out⟩
set_option maxRecDepth 100000 in
set_option maxHeartbeats 400000 in
/-- The reference's Grant. -/
theorem rGrant_any (a : Es) (v : Ve) (P r t : Int) (w : World) (h : EL w 0 a v) (hok : Eok a) (hP : 0 ≤ P ∧ P < a.n) :
    Calls Tryz.prog 53 #[.agg (ge a v), .int .i64 P, .int .i64 r, .int .i64 t] w fun e w' => (∃ z, e = .returned (.tuple #[.int .i64 z, .bool (grA a.e P t r).isSome])) ∧ Below w.heap.size w w' := by
  have HB0 := Lib.hid (box_below w (.cells (ge a v) 28))
  have R0 := Lib.hid (heap_alloc_new w (.cells (ge a v) 28))
  obtain ⟨c0, c1⟩ := geCells R0.out
  have HPL := Lib.hid (place_yes a v P _ (vay_of (Row.below h HB0.out) hok) ⟨hok.n1, hok.n16⟩ hP)
  have HGR := Lib.hid (fun w' (hb : Below w.heap.size w w') => rgrant_any a v P r t w' (Row.below h hb) (by have := hok.m; omega))
  have HF := Lib.hid (show (#[.int .i64 a.n, .slice v.A a.e.length v.c] : Array Value) = ge a v from rfl)
  have lR := row_lt R0.out
  clear h hok hP
  generalize grA a.e P t r = o at *
  cases o with
  | none =>
    have HG2 := Lib.hid (show ∀ w', Below w.heap.size w w' → Calls Tryz.prog 98 #[.agg (ge a v), .int .i64 P, .int .i64 r, .int .i64 t] w' fun e w'' => e = .returned (.int .i64 (-1)) ∧ Below w'.heap.size w' w'' from HGR.out)
    clear HGR
    go_enter Tryz.func53, Tryz.ntmps53
    go_wp2_with (first
      | (go_at_call 42; rw [HF.out]; refine HPL.out.mono ?_; rintro e w1 ⟨rfl, hb1⟩; have B1 := Lib.hid (HB0.out.trans (hb1.mono HB0.out.size)); have R1 := (hb1.block _ lR).trans R0.out; clear hb1 c0 c1; obtain ⟨c0, c1⟩ := geCells R1; clear R1)
      | (go_at_call 98; rw [HF.out]; refine (HG2.out _ B1.out).mono ?_; rintro e w2 ⟨rfl, hb2⟩; have B2 := Lib.hid (B1.out.trans (hb2.mono B1.out.size)); clear hb2 c0 c1))
    go_ret2
    exact ⟨⟨_, by first | rfl | simp⟩, B2.out⟩
  | some k =>
    have HG2 := Lib.hid (show ∀ w', Below w.heap.size w w' → Calls Tryz.prog 98 #[.agg (ge a v), .int .i64 P, .int .i64 r, .int .i64 t] w' fun e w'' => e = .returned (.int .i64 (k : Int)) ∧ Below w'.heap.size w' w'' from HGR.out)
    have d1 : decide ((0 : Int) ≤ (k : Int)) = true := decide_eq_true (by omega)
    clear HGR
    go_enter Tryz.func53, Tryz.ntmps53
    go_wp2_with (first
      | (go_at_call 42; rw [HF.out]; refine HPL.out.mono ?_; rintro e w1 ⟨rfl, hb1⟩; have B1 := Lib.hid (HB0.out.trans (hb1.mono HB0.out.size)); have R1 := (hb1.block _ lR).trans R0.out; clear hb1 c0 c1; obtain ⟨c0, c1⟩ := geCells R1; clear R1)
      | (go_at_call 98; rw [HF.out]; refine (HG2.out _ B1.out).mono ?_; rintro e w2 ⟨rfl, hb2⟩; have B2 := Lib.hid (B1.out.trans (hb2.mono B1.out.size)); clear hb2 c0 c1))
    go_ret2
    exact ⟨⟨_, by first | rfl | simp⟩, B2.out⟩

end Go.Proofs.YtgknfkmojhganaaGreat.Di

namespace Go.Proofs.YtgknfkmojhganaaGreat.Di
open Go.RowKit
open Go.Proofs.YtgknfkmojhganaaGreat.Tp
set_option linter.unusedVariables false
set_option linter.unusedSimpArgs false

set_option maxRecDepth 100000 in
set_option maxHeartbeats 16000000 in
/-- The reference finds that a chain proves. -/
theorem rproves_any (d : Dy) (v : Vd) (t p g cs : Nat) (As : Option Addr) (l : List Nat) (w : World) (h : DL w 0 d v) (hok : Ok d) (hl : Row w 0 1 As l.length (iv l)) (hch : Chain (dm d t) d.k.length p g l) (hcs : l.length ≤ cs) :
    Calls Tryz.prog 54 #[.agg (gd d v), .int .i64 (t : Int), .slice As l.length cs] w fun e w' => e = .returned (.bool true) ∧ Below w.heap.size w w' := by
  have HB := Lib.hid (box_below w (.cells (gd d v) 25))
  have A1 := Lib.hid (heap_alloc_new w (.cells (gd d v) 25))
  have hn := hok.n
  have hl2 := hch.two
  have hln := hch.le
  have HD := Lib.hid (h.below HB.out)
  have HL := Lib.hid hl
  have HCH := Lib.hid hch
  have HCK := Lib.hid (rvalid_any d v _ (h.below HB.out) hok)
  have HEX := Lib.hid (fun (p : Nat) w' => rexists_any d v p w' (by omega))
  have hmm := hok.m
  have HDR := Lib.hid (fun (p g : Nat) w' (hb : Below (w.alloc (.cells (gd d v) 25)).heap.size (w.alloc (.cells (gd d v) 25)) w') => rdirect_any d v p g t w' (HD.out.below hb) (by omega))
  have HCS := Lib.hid hcs
  have HF := Lib.hid (show (#[.slice v.A1 d.k.length v.c1, .slice v.A2 d.e.length v.c2] : Array Value) = gd d v from rfl)
  obtain ⟨g0, g1⟩ := gdCells A1.out
  have d2 : decide ((l.length : Int) < 2) = false := decide_eq_false (by omega)
  have d3 : decide ((d.k.length : Int) < (l.length : Int)) = false := decide_eq_false (by omega)
  have d3' : decide (d.k.length < l.length) = false := decide_eq_false (by omega)
  have lA := row_lt A1.out
  clear h hok hl hch hcs
  go_enter Tryz.func54, Tryz.ntmps54
  go_wp2_with (go_at_call 41; rw [HF.out]; refine HCK.out.mono ?_; rintro e w1 ⟨rfl, hb1⟩; have B0 := Lib.hid hb1; have B1 := Lib.hid (HB.out.trans (hb1.mono HB.out.size)); have C1 := Lib.hid ((hb1.block _ lA).trans A1.out); obtain ⟨c0, c1⟩ := gdCells C1.out; clear hb1 g0 g1)
  have HL3 := Lib.hid (HL.out.below B1.out)
  have HD3 := Lib.hid (HD.out.below B0.out)
  clear c0 c1
  go_loopw [27] (fun ii wr => ∃ i : Nat, i ≤ l.length ∧ ii = .int .i64 i ∧ Below w1.heap.size w1 wr) (fun ii _ => l.length - (intOf ii).toNat)
  case atStart => exact ⟨0, by omega, rfl, Below.refl _ _⟩
  case round =>
    obtain ⟨i, hi, rfl, hbl⟩ := hrel
    have HBI := Lib.hid hbl
    have hrow := HL3.out.below hbl
    have C9 := Lib.hid ((hbl.block _ (row_lt C1.out)).trans C1.out)
    by_cases hlt : i < l.length
    · obtain ⟨b, off, hAs, -, hbk, y0⟩ := hrow.int hlt
      have hpn := HCH.out.lt i hlt
      have hno := take_no HCH.out hlt
      have i0 : (0 : Int) ≤ (i : Int) := by omega
      have i1 : (i : Int) < (l.length : Int) := by omega
      have i2 : (i : Int) ≤ (cs : Int) := by have := HCS.out; omega
      have i3 : i ≤ cs := by have := HCS.out; omega
      have hE := fun w' => HEX.out (l.getD i 0) w'
      rw [decide_eq_true hpn] at hE
      have hCT := fun w' (hw : Below wr.heap.size wr w') => has_any (l.take i) (l.getD i 0) As i cs w' ((hrow.below hw).take (Nat.le_of_lt hlt)) (by omega)
      rw [hno] at hCT
      subst hAs
      have HDW := Lib.hid (fun (p g : Nat) w' (hb : Below wr.heap.size wr w') => HDR.out p g w' (B0.out.trans ((hbl.trans (hb.mono hbl.size)).mono B0.out.size)))
      cases i with
      | zero =>
        generalize l.getD 0 0 = q at *
        rw [Nat.add_zero] at y0
        simp only [show ((0 : Nat) : Int) = 0 from rfl] at *
        simp only [gd] at hE
        have HE := Lib.hid hE
        have HCT := Lib.hid hCT
        have HKP := Lib.hid (fun w' (hb : Below wr.heap.size wr w') => (by
          obtain ⟨e0, e1⟩ := gdCells ((hb.block _ (row_lt C9.out)).trans C9.out)
          exact ⟨e0, e1, hb⟩ : (fun w' => w'.cell? ⟨w.heap.size, 0, none⟩ = some (.slice v.A1 d.k.length v.c1) ∧ w'.cell? ⟨w.heap.size, 1, none⟩ = some (.slice v.A2 d.e.length v.c2) ∧ Below wr.heap.size wr w') w'))
        have bd9 : Below wr.heap.size wr wr := Below.refl _ _
        have bd0 : Below wr.heap.size wr wr.drew := bd9.drew
        clear hE hbl hno hCT hrow
        go_wp2_with fail
        refine wp_region_held_drew (S := fun w' => w'.cell? ⟨w.heap.size, 0, none⟩ = some (.slice v.A1 d.k.length v.c1) ∧ w'.cell? ⟨w.heap.size, 1, none⟩ = some (.slice v.A2 d.e.length v.c2) ∧ Below wr.heap.size wr w') (by kernel_rfl) ?_ (fun hHeld => ?_)
        · exact HKP.out _ bd0
        refine wpAnyH_take (i := 0) (oi := { dst := some 32, op := Op.load 25 (Operand.tmp 3), type := 25, pos := "ref.go:155", after := #[], guard := none }) (v := ?v0) rfl (by kernel_rfl) (by kernel_rfl) (by kernel_rfl) (fun _ _ _ h => h) (Or.inl ⟨by rfl, ?y0⟩) (by assumption) ?r0
        case y0 => (intro w hSw; (try dsimp only at hSw); go_simp; try with_reducible rfl)
        try simp only [List.getElem_toArray, List.getElem_cons_succ, List.getElem_cons_zero, Act.put, List.setIfInBounds_toArray, List.set_cons_zero, List.set_cons_succ]
        refine wpAnyH_take (i := 1) (oi := { dst := some 33, op := Op.move (Operand.tmp 8), type := 3, pos := "ref.go:155", after := #[], guard := none }) (v := ?v1) rfl (by kernel_rfl) (by kernel_rfl) (by kernel_rfl) (fun _ _ _ h => h) (Or.inl ⟨by rfl, ?y1⟩) (by assumption) ?r1
        case y1 => (intro w hSw; (try dsimp only at hSw); go_simp; try with_reducible rfl)
        try simp only [List.getElem_toArray, List.getElem_cons_succ, List.getElem_cons_zero, Act.put, List.setIfInBounds_toArray, List.set_cons_zero, List.set_cons_succ]
        refine wpAnyH_ready (rs := [2]) (by kernel_rfl) (by simp) ?_
        refine AllReadyH.cons rfl (fun K hK => ?_) AllReadyH.nil
        go_simp
        go_at_call 57
        (with_reducible refine (HE.out _).mono ?_)
        rintro e w7 ⟨rfl, hb7⟩
        have b7 : Below wr.heap.size wr w7 := bd0.trans (hb7.mono bd0.size)
        clear hb7
        refine hK.out _ _ ?_ (fun hHeld => ?_)
        · exact HKP.out _ b7
        clear hK K
        try simp only [List.getElem_toArray, List.getElem_cons_succ, List.getElem_cons_zero, Act.put, List.setIfInBounds_toArray, List.set_cons_zero, List.set_cons_succ]
        refine wpAnyH_take (i := 3) (oi := { dst := some 35, op := Op.unOp UnOp.not 4 (Operand.tmp 34), type := 4, pos := "ref.go:155", after := #[{ on := 2, ground := Ground.data }], guard := none }) (v := ?v3) rfl (by kernel_rfl) (by kernel_rfl) (by kernel_rfl) (fun _ _ _ h => h) (Or.inl ⟨by rfl, ?y3⟩) (by assumption) ?r3
        case y3 => (intro w hSw; (try dsimp only at hSw); go_simp; try with_reducible rfl)
        try simp only [List.getElem_toArray, List.getElem_cons_succ, List.getElem_cons_zero, Act.put, List.setIfInBounds_toArray, List.set_cons_zero, List.set_cons_succ]
        refine wpAnyH_take (i := 4) (oi := { dst := some 36, op := Op.move (Operand.tmp 35), type := 4, pos := "ref.go:155", after := #[{ on := 3, ground := Ground.data }, { on := 2, ground := Ground.chain }], guard := none }) (v := ?v4) rfl (by kernel_rfl) (by kernel_rfl) (by kernel_rfl) (fun _ _ _ h => h) (Or.inl ⟨by rfl, ?y4⟩) (by assumption) ?r4
        case y4 => (intro w hSw; (try dsimp only at hSw); go_simp; try with_reducible rfl)
        try simp only [List.getElem_toArray, List.getElem_cons_succ, List.getElem_cons_zero, Act.put, List.setIfInBounds_toArray, List.set_cons_zero, List.set_cons_succ]
        refine wpAnyH_take (i := 5) (oi := { dst := some 37, op := Op.move (Operand.tmp 2), type := 22, pos := "ref.go:155", after := #[{ on := 4, ground := Ground.guard }], guard := some (4, false) }) (v := ?v5) rfl (by kernel_rfl) (by kernel_rfl) (by kernel_rfl) (fun _ _ _ h => h) (Or.inl ⟨by rfl, ?y5⟩) (by assumption) ?r5
        case y5 => (intro w hSw; (try dsimp only at hSw); go_simp; try with_reducible rfl)
        try simp only [List.getElem_toArray, List.getElem_cons_succ, List.getElem_cons_zero, Act.put, List.setIfInBounds_toArray, List.set_cons_zero, List.set_cons_succ]
        refine wpAnyH_take (i := 6) (oi := { dst := some 38, op := Op.move (Operand.tmp 7), type := 3, pos := "ref.go:155", after := #[{ on := 4, ground := Ground.guard }], guard := some (4, false) }) (v := ?v6) rfl (by kernel_rfl) (by kernel_rfl) (by kernel_rfl) (fun _ _ _ h => h) (Or.inl ⟨by rfl, ?y6⟩) (by assumption) ?r6
        case y6 => (intro w hSw; (try dsimp only at hSw); go_simp; try with_reducible rfl)
        try simp only [List.getElem_toArray, List.getElem_cons_succ, List.getElem_cons_zero, Act.put, List.setIfInBounds_toArray, List.set_cons_zero, List.set_cons_succ]
        refine wpAnyH_take (i := 7) (oi := { dst := some 39, op := Op.slice 22 (Operand.tmp 37) none (some (Operand.tmp 38)) none, type := 22, pos := "ref.go:155", after := #[{ on := 5, ground := Ground.data }, { on := 6, ground := Ground.data }, { on := 4, ground := Ground.guard }], guard := some (4, false) }) (v := ?v7) rfl (by kernel_rfl) (by kernel_rfl) (by kernel_rfl) (fun _ _ _ h => h) (Or.inl ⟨by rfl, ?y7⟩) (by assumption) ?r7
        case y7 => (intro w hSw; (try dsimp only at hSw); go_simp; try with_reducible rfl)
        try simp only [List.getElem_toArray, List.getElem_cons_succ, List.getElem_cons_zero, Act.put, List.setIfInBounds_toArray, List.set_cons_zero, List.set_cons_succ]
        refine wpAnyH_take (i := 8) (oi := { dst := some 40, op := Op.move (Operand.tmp 8), type := 3, pos := "ref.go:155", after := #[{ on := 4, ground := Ground.guard }], guard := some (4, false) }) (v := ?v8) rfl (by kernel_rfl) (by kernel_rfl) (by kernel_rfl) (fun _ _ _ h => h) (Or.inl ⟨by rfl, ?y8⟩) (by assumption) ?r8
        case y8 => (intro w hSw; (try dsimp only at hSw); go_simp; try with_reducible rfl)
        try simp only [List.getElem_toArray, List.getElem_cons_succ, List.getElem_cons_zero, Act.put, List.setIfInBounds_toArray, List.set_cons_zero, List.set_cons_succ]
        refine wpAnyH_ready (rs := [9]) (by kernel_rfl) (by simp) ?_
        refine AllReadyH.cons rfl (fun K hK => ?_) AllReadyH.nil
        go_simp
        go_at_call 65
        (refine (HCT.out _ b7).mono ?_)
        rintro e w6 ⟨rfl, rfl⟩
        refine hK.out _ _ ?_ (fun hHeld => ?_)
        · exact HKP.out _ b7
        clear hK K
        try simp only [List.getElem_toArray, List.getElem_cons_succ, List.getElem_cons_zero, Act.put, List.setIfInBounds_toArray, List.set_cons_zero, List.set_cons_succ]
        refine wpAnyH_take (i := 10) (oi := { dst := some 42, op := Op.pick (Operand.tmp 36) (Operand.const (Value.bool true)) (Operand.tmp 41), type := 4, pos := "ref.go:155", after := #[{ on := 4, ground := Ground.data }, { on := 9, ground := Ground.data }], guard := none }) (v := ?v10) rfl (by kernel_rfl) (by kernel_rfl) (by kernel_rfl) (fun _ _ _ h => h) (Or.inl ⟨by rfl, ?y10⟩) (by assumption) ?r10
        case y10 => (intro w hSw; (try dsimp only at hSw); go_simp; try with_reducible rfl)
        try simp only [List.getElem_toArray, List.getElem_cons_succ, List.getElem_cons_zero, Act.put, List.setIfInBounds_toArray, List.set_cons_zero, List.set_cons_succ]
        refine wpAnyH_take (i := 11) (oi := { dst := some 43, op := Op.move (Operand.tmp 42), type := 4, pos := "ref.go:155", after := #[{ on := 10, ground := Ground.data }, { on := 9, ground := Ground.chain }], guard := none }) (v := ?v11) rfl (by kernel_rfl) (by kernel_rfl) (by kernel_rfl) (fun _ _ _ h => h) (Or.inl ⟨by rfl, ?y11⟩) (by assumption) ?r11
        case y11 => (intro w hSw; (try dsimp only at hSw); go_simp; try with_reducible rfl)
        try simp only [List.getElem_toArray, List.getElem_cons_succ, List.getElem_cons_zero, Act.put, List.setIfInBounds_toArray, List.set_cons_zero, List.set_cons_succ]
        refine wpAnyH_take (i := 12) (oi := { dst := some 44, op := Op.move (Operand.tmp 7), type := 3, pos := "ref.go:155", after := #[{ on := 11, ground := Ground.guard }], guard := some (11, false) }) (v := ?v12) rfl (by kernel_rfl) (by kernel_rfl) (by kernel_rfl) (fun _ _ _ h => h) (Or.inl ⟨by rfl, ?y12⟩) (by assumption) ?r12
        case y12 => (intro w hSw; (try dsimp only at hSw); go_simp; try with_reducible rfl)
        try simp only [List.getElem_toArray, List.getElem_cons_succ, List.getElem_cons_zero, Act.put, List.setIfInBounds_toArray, List.set_cons_zero, List.set_cons_succ]
        refine wpAnyH_take (i := 13) (oi := { dst := some 45, op := Op.binOp BinOp.gtr 3 (Operand.tmp 44) (Operand.const (Value.int IntKind.i64 0)) 3, type := 4, pos := "ref.go:155", after := #[{ on := 12, ground := Ground.data }, { on := 11, ground := Ground.guard }], guard := some (11, false) }) (v := ?v13) rfl (by kernel_rfl) (by kernel_rfl) (by kernel_rfl) (fun _ _ _ h => h) (Or.inl ⟨by rfl, ?y13⟩) (by assumption) ?r13
        case y13 => (intro w hSw; (try dsimp only at hSw); go_simp; try with_reducible rfl)
        try simp only [List.getElem_toArray, List.getElem_cons_succ, List.getElem_cons_zero, Act.put, List.setIfInBounds_toArray, List.set_cons_zero, List.set_cons_succ]
        refine wpAnyH_take (i := 14) (oi := { dst := some 46, op := Op.move (Operand.tmp 45), type := 4, pos := "ref.go:155", after := #[{ on := 13, ground := Ground.data }, { on := 11, ground := Ground.chain }, { on := 11, ground := Ground.guard }], guard := some (11, false) }) (v := ?v14) rfl (by kernel_rfl) (by kernel_rfl) (by kernel_rfl) (fun _ _ _ h => h) (Or.inl ⟨by rfl, ?y14⟩) (by assumption) ?r14
        case y14 => (intro w hSw; (try dsimp only at hSw); go_simp; try with_reducible rfl)
        try simp only [List.getElem_toArray, List.getElem_cons_succ, List.getElem_cons_zero, Act.put, List.setIfInBounds_toArray, List.set_cons_zero, List.set_cons_succ]
        refine wpAnyH_take (i := 15) (oi := { dst := some 47, op := Op.load 25 (Operand.tmp 3), type := 25, pos := "ref.go:155", after := #[{ on := 14, ground := Ground.guard }], guard := some (14, true) }) (v := undef) rfl (by kernel_rfl) (by kernel_rfl) (by kernel_rfl) (fun _ _ _ h => h) (Or.inr ⟨by rfl, rfl⟩) (by assumption) ?_
        try simp only [List.getElem_toArray, List.getElem_cons_succ, List.getElem_cons_zero, Act.put, List.setIfInBounds_toArray, List.set_cons_zero, List.set_cons_succ]
        refine wpAnyH_take (i := 16) (oi := { dst := some 48, op := Op.move (Operand.tmp 2), type := 22, pos := "ref.go:155", after := #[{ on := 14, ground := Ground.guard }], guard := some (14, true) }) (v := undef) rfl (by kernel_rfl) (by kernel_rfl) (by kernel_rfl) (fun _ _ _ h => h) (Or.inr ⟨by rfl, rfl⟩) (by assumption) ?_
        try simp only [List.getElem_toArray, List.getElem_cons_succ, List.getElem_cons_zero, Act.put, List.setIfInBounds_toArray, List.set_cons_zero, List.set_cons_succ]
        refine wpAnyH_take (i := 17) (oi := { dst := some 49, op := Op.move (Operand.tmp 7), type := 3, pos := "ref.go:155", after := #[{ on := 14, ground := Ground.guard }], guard := some (14, true) }) (v := undef) rfl (by kernel_rfl) (by kernel_rfl) (by kernel_rfl) (fun _ _ _ h => h) (Or.inr ⟨by rfl, rfl⟩) (by assumption) ?_
        try simp only [List.getElem_toArray, List.getElem_cons_succ, List.getElem_cons_zero, Act.put, List.setIfInBounds_toArray, List.set_cons_zero, List.set_cons_succ]
        refine wpAnyH_take (i := 18) (oi := { dst := some 50, op := Op.binOp BinOp.sub 3 (Operand.tmp 49) (Operand.const (Value.int IntKind.i64 1)) 3, type := 3, pos := "ref.go:155", after := #[{ on := 17, ground := Ground.data }, { on := 14, ground := Ground.guard }], guard := some (14, true) }) (v := undef) rfl (by kernel_rfl) (by kernel_rfl) (by kernel_rfl) (fun _ _ _ h => h) (Or.inr ⟨by rfl, rfl⟩) (by assumption) ?_
        try simp only [List.getElem_toArray, List.getElem_cons_succ, List.getElem_cons_zero, Act.put, List.setIfInBounds_toArray, List.set_cons_zero, List.set_cons_succ]
        refine wpAnyH_take (i := 19) (oi := { dst := some 51, op := Op.indexAddr 22 (Operand.tmp 48) (Operand.tmp 50), type := 0, pos := "ref.go:155", after := #[{ on := 16, ground := Ground.data }, { on := 18, ground := Ground.data }, { on := 14, ground := Ground.guard }], guard := some (14, true) }) (v := undef) rfl (by kernel_rfl) (by kernel_rfl) (by kernel_rfl) (fun _ _ _ h => h) (Or.inr ⟨by rfl, rfl⟩) (by assumption) ?_
        try simp only [List.getElem_toArray, List.getElem_cons_succ, List.getElem_cons_zero, Act.put, List.setIfInBounds_toArray, List.set_cons_zero, List.set_cons_succ]
        refine wpAnyH_take (i := 20) (oi := { dst := some 52, op := Op.load 3 (Operand.tmp 51), type := 3, pos := "ref.go:155", after := #[{ on := 19, ground := Ground.data }, { on := 14, ground := Ground.guard }], guard := some (14, true) }) (v := undef) rfl (by kernel_rfl) (by kernel_rfl) (by kernel_rfl) (fun _ _ _ h => h) (Or.inr ⟨by rfl, rfl⟩) (by assumption) ?_
        try simp only [List.getElem_toArray, List.getElem_cons_succ, List.getElem_cons_zero, Act.put, List.setIfInBounds_toArray, List.set_cons_zero, List.set_cons_succ]
        refine wpAnyH_take (i := 21) (oi := { dst := some 53, op := Op.move (Operand.tmp 8), type := 3, pos := "ref.go:155", after := #[{ on := 14, ground := Ground.guard }], guard := some (14, true) }) (v := undef) rfl (by kernel_rfl) (by kernel_rfl) (by kernel_rfl) (fun _ _ _ h => h) (Or.inr ⟨by rfl, rfl⟩) (by assumption) ?_
        try simp only [List.getElem_toArray, List.getElem_cons_succ, List.getElem_cons_zero, Act.put, List.setIfInBounds_toArray, List.set_cons_zero, List.set_cons_succ]
        refine wpAnyH_take (i := 22) (oi := { dst := some 54, op := Op.move (Operand.tmp 1), type := 3, pos := "ref.go:155", after := #[{ on := 14, ground := Ground.guard }], guard := some (14, true) }) (v := undef) rfl (by kernel_rfl) (by kernel_rfl) (by kernel_rfl) (fun _ _ _ h => h) (Or.inr ⟨by rfl, rfl⟩) (by assumption) ?_
        try simp only [List.getElem_toArray, List.getElem_cons_succ, List.getElem_cons_zero, Act.put, List.setIfInBounds_toArray, List.set_cons_zero, List.set_cons_succ]
        refine wpAnyH_take (i := 23) (oi := { dst := some 55, op := Op.call { callee := Callee.value (Operand.func 99), args := #[Operand.tmp 47, Operand.tmp 52, Operand.tmp 53, Operand.tmp 54], argTypes := #[25, 3, 3, 3] }, type := 4, pos := "ref.go:155", after := #[{ on := 15, ground := Ground.data }, { on := 20, ground := Ground.data }, { on := 21, ground := Ground.data }, { on := 22, ground := Ground.data }, { on := 14, ground := Ground.chain }, { on := 14, ground := Ground.guard }], guard := some (14, true) }) (v := undef) rfl (by kernel_rfl) (by kernel_rfl) (by kernel_rfl) (fun _ _ _ h => h) (Or.inr ⟨by rfl, rfl⟩) (by assumption) ?_
        try simp only [List.getElem_toArray, List.getElem_cons_succ, List.getElem_cons_zero, Act.put, List.setIfInBounds_toArray, List.set_cons_zero, List.set_cons_succ]
        refine wpAnyH_take (i := 24) (oi := { dst := some 56, op := Op.unOp UnOp.not 4 (Operand.tmp 55), type := 4, pos := "ref.go:155", after := #[{ on := 23, ground := Ground.data }, { on := 14, ground := Ground.guard }], guard := some (14, true) }) (v := undef) rfl (by kernel_rfl) (by kernel_rfl) (by kernel_rfl) (fun _ _ _ h => h) (Or.inr ⟨by rfl, rfl⟩) (by assumption) ?_
        try simp only [List.getElem_toArray, List.getElem_cons_succ, List.getElem_cons_zero, Act.put, List.setIfInBounds_toArray, List.set_cons_zero, List.set_cons_succ]
        refine wpAnyH_take (i := 25) (oi := { dst := some 57, op := Op.pick (Operand.tmp 46) (Operand.tmp 56) (Operand.const (Value.bool false)), type := 4, pos := "ref.go:155", after := #[{ on := 14, ground := Ground.data }, { on := 24, ground := Ground.data }, { on := 11, ground := Ground.guard }], guard := some (11, false) }) (v := ?v25) rfl (by kernel_rfl) (by kernel_rfl) (by kernel_rfl) (fun _ _ _ h => h) (Or.inl ⟨by rfl, ?y25⟩) (by assumption) ?r25
        case y25 => (intro w hSw; (try dsimp only at hSw); go_simp; try with_reducible rfl)
        try simp only [List.getElem_toArray, List.getElem_cons_succ, List.getElem_cons_zero, Act.put, List.setIfInBounds_toArray, List.set_cons_zero, List.set_cons_succ]
        refine wpAnyH_take (i := 26) (oi := { dst := some 58, op := Op.pick (Operand.tmp 43) (Operand.const (Value.bool true)) (Operand.tmp 57), type := 4, pos := "ref.go:155", after := #[{ on := 11, ground := Ground.data }, { on := 25, ground := Ground.data }], guard := none }) (v := ?v26) rfl (by kernel_rfl) (by kernel_rfl) (by kernel_rfl) (fun _ _ _ h => h) (Or.inl ⟨by rfl, ?y26⟩) (by assumption) ?r26
        case y26 => (intro w hSw; (try dsimp only at hSw); go_simp; try with_reducible rfl)
        try simp only [List.getElem_toArray, List.getElem_cons_succ, List.getElem_cons_zero, Act.put, List.setIfInBounds_toArray, List.set_cons_zero, List.set_cons_succ]
        refine wpAnyH_done (by kernel_rfl) ?_ _
        have P7 := Lib.hid (HBI.out.trans (b7.mono HBI.out.size))
        clear b7 bd9 bd0
        go_wp2_with fail
        exact ⟨⟨1, by omega, by go_num, P7.out⟩, by simp [intOf]; omega⟩
      | succ k =>
        obtain ⟨b', off', e7, -, -, y1⟩ := hrow.int (show k < l.length by omega)
        cases e7
        have hlk := HCH.out.link k hlt
        generalize l.getD (k + 1) 0 = q at *
        obtain ⟨o, ho⟩ : ∃ o, l.getD k 0 = o := ⟨_, rfl⟩
        rw [ho] at hlk y1
        have hDR := fun w' (hb : Below wr.heap.size wr w') => HDW.out o q w' hb
        rw [hlk] at hDR
        simp only [gd] at hE hDR
        have HE := Lib.hid hE
        have HCT := Lib.hid hCT
        have HDQ := Lib.hid hDR
        have Y1 := Lib.hid y1
        have HKP := Lib.hid (fun w' (hb : Below wr.heap.size wr w') => (by
          obtain ⟨e0, e1⟩ := gdCells ((hb.block _ (row_lt C9.out)).trans C9.out)
          exact ⟨e0, e1, (hb.cell (p := ⟨b, off + k, none⟩) hbk).trans Y1.out, hb⟩ : (fun w' => w'.cell? ⟨w.heap.size, 0, none⟩ = some (.slice v.A1 d.k.length v.c1) ∧ w'.cell? ⟨w.heap.size, 1, none⟩ = some (.slice v.A2 d.e.length v.c2) ∧ w'.cell? ⟨b, off + k, none⟩ = some (.int .i64 (o : Int)) ∧ Below wr.heap.size wr w') w'))
        have bd9 : Below wr.heap.size wr wr := Below.refl _ _
        have bd0 : Below wr.heap.size wr wr.drew := bd9.drew
        have l0 : (0 : Int) ≤ (k : Int) := by omega
        have l1 : (k : Int) < (l.length : Int) := by omega
        have hw0 : IntKind.i64.wrap (k : Int) = (k : Int) := IntWalk.i64_in _ (by omega)
        have hw1 : IntKind.i64.wrap ((k : Int) + 1 - 1) = (k : Int) := by rw [show (k : Int) + 1 - 1 = (k : Int) by omega]; exact hw0
        have i4 : (k : Int) + 1 ≤ (cs : Int) := by omega
        have i5 : (0 : Int) ≤ (k : Int) + 1 := by omega
        have i6 : ((k : Int) + 1).toNat = k + 1 := by omega
        have i7 : ¬ cs < k + 1 := by omega
        have i8 : ¬ (cs : Int) < (k : Int) + 1 := by omega
        have i9 : ¬ (k : Int) + 1 < 0 := by omega
        have l5 : decide ((0 : Int) < (k : Int) + 1) = true := decide_eq_true (by omega)
        clear hE hbl hno hCT hrow hlk hDR y1 ho
        go_wp2_with fail
        go_region_held3 (fun w' => w'.cell? ⟨w.heap.size, 0, none⟩ = some (.slice v.A1 d.k.length v.c1) ∧ w'.cell? ⟨w.heap.size, 1, none⟩ = some (.slice v.A2 d.e.length v.c2) ∧ w'.cell? ⟨b, off + k, none⟩ = some (.int .i64 (o : Int)) ∧ Below wr.heap.size wr w')
          (first | (with_reducible assumption) | (with_reducible exact HKP.out _ bd9) | (with_reducible exact HKP.out _ bd0) | (with_reducible exact HKP.out _ b7) | (with_reducible exact HKP.out _ b8))
          (first
            | (go_at_call 57; (with_reducible refine (HE.out _).mono ?_); rintro e w7 ⟨rfl, hb7⟩; go_split_ands; have b7 : Below wr.heap.size wr w7 := Below.trans (by with_reducible assumption) (hb7.mono (Below.size (by with_reducible assumption))); clear hb7)
            | (go_at_call 65; (with_reducible refine (HCT.out _ ?_).mono ?_); (go_split_ands; with_reducible assumption); rintro e w6 ⟨rfl, rfl⟩)
            | (go_at_call 99; (with_reducible refine (HDQ.out _ ?_).mono ?_); (go_split_ands; with_reducible assumption); rintro e w8 ⟨rfl, hb8⟩; go_split_ands; have b8 : Below wr.heap.size wr w8 := Below.trans (by with_reducible assumption) (hb8.mono (Below.size (by with_reducible assumption))); clear hb8))
        go_split_ands
        have P7 := Lib.hid (HBI.out.trans (b8.mono HBI.out.size))
        clear b7 b8 bd9 bd0
        go_wp2_with fail
        exact ⟨⟨k + 1 + 1, by omega, by go_num, P7.out⟩, by simp [intOf]; omega⟩
    · obtain rfl : l.length = i := by omega
      have HBF := Lib.hid (B1.out.trans (hbl.mono B1.out.size))
      clear hbl hrow
      go_wp2_with fail
      go_ret
      exact ⟨by first | rfl | simp, HBF.out⟩

end Go.Proofs.YtgknfkmojhganaaGreat.Di

namespace Go.Proofs.YtgknfkmojhganaaGreat.Di
open Go.RowKit
open Go.Proofs.YtgknfkmojhganaaGreat.Tp
set_option linter.unusedVariables false
set_option linter.unusedSimpArgs false

/-- A reading, as cells. -/
def rc (P t l g : Int) (A : Option Addr) (n c : Nat) : Array Value := #[.int .i64 P, .int .i64 t, .int .i64 l, .int .i64 g, .slice A n c]
theorem rc_one (P t l g : Int) (A : Option Addr) (n c : Nat) : (rc P t l g A n c).all (·.oneCell') = true := by simp [rc, Value.oneCell']
theorem info37 (P t l g : Int) (A : Option Addr) (n c : Nat) : (Tryz.prog.info? 30).map (·.size) = some (rc P t l g A n c).size := by
  have h : (Tryz.prog.info? 30).map (·.size) = some 5 := by kernel_rfl
  exact h
theorem rcCells {w : World} {P t l g : Int} {A : Option Addr} {n c : Nat} {ty : TypeId} {o : Nat × Nat} {b : Nat} (h : w.heap[b]? = some (.cells (rc P t l g A n c) ty o)) :
    w.cell? ⟨b, 0, none⟩ = some (.int .i64 P) ∧ w.cell? ⟨b, 1, none⟩ = some (.int .i64 t) ∧ w.cell? ⟨b, 2, none⟩ = some (.int .i64 l) ∧ w.cell? ⟨b, 3, none⟩ = some (.int .i64 g) ∧ w.cell? ⟨b, 4, none⟩ = some (.slice A n c) := by
  refine ⟨?_, ?_, ?_, ?_, ?_⟩ <;> rw [cell_of_row _ _ _ _ _ _ h] <;> rfl
/-- A reading that proves. -/
def Rdg (d : Dy) (a : Es) (p P t : Nat) (lk gk : Int) (L : List Nat) : Prop :=
  ((lkA a.e (P : Int) (t : Int)).isSome = true ∧ lk = on (lkA a.e (P : Int) (t : Int)) ∧ gk = -1 ∧ L = []) ∨
  ((lkA a.e (P : Int) (t : Int)).isSome = false ∧ lk = -1 ∧ ∃ q g : Nat, gk = (g : Int) ∧ q < d.k.length ∧ grA a.e (P : Int) (t : Int) (q : Int) = some g ∧ ((q = p ∧ L = [p]) ∨ (q ≠ p ∧ Chain (dm d t) d.k.length p q L)))
def RyPost (d : Dy) (a : Es) (p P t : Nat) (w : World) (e : Ending) (w' : World) : Prop :=
  (mayB d a p P t = false ∧ e = .returned (.tuple #[.agg (rc 0 0 0 0 none 0 0), .bool false]) ∧ Below w.heap.size w w') ∨
  (mayB d a p P t = true ∧ ∃ lk gk L A c, e = .returned (.tuple #[.agg (rc (P : Int) (t : Int) lk gk A L.length c), .bool true]) ∧ L.length ≤ c ∧ Rdg d a p P t lk gk L ∧ Row w' w.heap.size 1 A L.length (iv L) ∧ Below w.heap.size w w')
theorem row_none (w : World) (B s : Nat) : Row w B s none 0 [] := ⟨by simp, fun h => absurd h (by omega)⟩
set_option maxRecDepth 100000 in
set_option maxHeartbeats 8000000 in
theorem whyr_any (d : Dy) (v : Vd) (a : Es) (u : Ve) (p P t : Nat) (w : World) (h : DL w 0 d v) (hok : Ok d) (he : EL w 0 a u) (hea : Eok a) (hP : (P : Int) < a.n) :
    Calls Tryz.prog 17 #[.agg (gd d v), .agg (ge a u), .int .i64 (p : Int), .int .i64 (P : Int), .int .i64 (t : Int)] w (RyPost d a p P t w) := by
  have hbx := (box_below w (.cells (gd d v) 25)).trans ((box_below (w.alloc (.cells (gd d v) 25)) (.cells (ge a u) 28)).mono (by simp))
  have hw1 : ((w.alloc (.cells (gd d v) 25)).alloc (.cells (ge a u) 28)).heap.size = w.heap.size + 1 + 1 := by simp
  have D1 := heap_alloc2_old w (.cells (gd d v) 25) (.cells (ge a u) 28)
  have E1 := heap_alloc2_new w (.cells (gd d v) 25) (.cells (ge a u) 28)
  have hn := hok.n
  have hbz := box_below ((w.alloc (.cells (gd d v) 25)).alloc (.cells (ge a u) 28)) (.cells #[.int .i64 0, .int .i64 0, .int .i64 0, .int .i64 0, .slice none 0 0] 30)
  have hbxz := hbx.trans (hbz.mono hbx.size)
  have HBX := Lib.hid hbxz
  have D2 := Lib.hid ((hbz.block _ (row_lt D1)).trans D1)
  have E2 := Lib.hid ((hbz.block _ (row_lt E1)).trans E1)
  have Z2 := heap_alloc_new ((w.alloc (.cells (gd d v) 25)).alloc (.cells (ge a u) 28)) (.cells #[.int .i64 0, .int .i64 0, .int .i64 0, .int .i64 0, .slice none 0 0] 30)
  rw [hw1] at Z2
  have HZ := Lib.hid Z2
  obtain ⟨g0, g1⟩ := gdCells D2.out
  obtain ⟨c0, c1⟩ := geCells E2.out
  have HEX := Lib.hid (exr_any d v a u p P _ (h.below hbxz) hok (Row.below he hbxz) hea hP)
  have HLK := Lib.hid (fun w' (hb : Below w.heap.size w w') => linked_yes a u (P : Int) (t : Int) w' (Row.below he hb) ⟨hea, by omega, hP⟩)
  have hky := fun w' (hb : Below w.heap.size w w') => key_any d v a u p P t w' (h.below hb) hok (Row.below he hb) hea
  unfold KyPost at hky
  have HKY := Lib.hid hky
  have HGT := Lib.hid (fun (q : Nat) (hq : q < 24) w' (hb : Below w.heap.size w w') => grant_yes a u (P : Int) (q : Int) (t : Int) w' (Row.below he hb) ⟨hea, by omega, hP⟩ (WalkArith.wf_i64 (by omega)))
  have hwy := fun (q : Nat) w' (hb : Below w.heap.size w w') => why2_any 0 d v p q t w' (h.below hb) hok
  unfold WhPost2 at hwy
  have HWY := Lib.hid hwy
  have HUP := Lib.hid (fun (q : Nat) (hk : keyB d a p P t q = true) => (by
    unfold keyB at hk
    rw [Bool.and_eq_true, upB_iff, gdB_yes ⟨hea, by omega, hP⟩] at hk
    exact ⟨hk.1.1, hk.1.2, hk.2, rc_group hok hk.1.2⟩ : p < d.k.length ∧ Rc d t p q ∧ (grA a.e (P : Int) (t : Int) (q : Int)).isSome = true ∧ (q = p ∨ (q < d.k.length ∧ kd d q = 2))))
  have HFD := Lib.hid (show (#[.slice v.A1 d.k.length v.c1, .slice v.A2 d.e.length v.c2] : Array Value) = gd d v from rfl)
  have HFE := Lib.hid (show (#[.int .i64 a.n, .slice u.A a.e.length u.c] : Array Value) = ge a u from rfl)
  have lD := row_lt D2.out
  have lE := row_lt E2.out
  have lZ := row_lt Z2
  have HMY := Lib.hid (may_is d a p P t)
  unfold RyPost
  have HRD := Lib.hid (show ∀ lk gk L, Rdg d a p P t lk gk L ↔ Rdg d a p P t lk gk L from fun _ _ _ => Iff.rfl)
  obtain ⟨mb, hmb⟩ : ∃ mb, mayB d a p P t = mb := ⟨_, rfl⟩
  rw [hmb] at HMY ⊢
  unfold Rdg
  generalize hkb : anyB (keyB d a p P t) d.k.length = kb at *
  generalize rB d p = rb at *
  generalize lkA a.e (P : Int) (t : Int) = o at *
  generalize on o = oi at *
  generalize o.isSome = ob at *
  clear h hok he hea hP hbx hky hwy hbz hbxz hw1 D1 E1 Z2 HRD hmb hkb
  cases rb with
  | false =>
    have HM := Lib.hid (show mb = false from HMY.out)
    go_enter Tryz.func17, Tryz.ntmps17
    go_wp2_with (first
      | (go_at_call 48; rw [HFD.out, HFE.out]; refine HEX.out.mono ?_; rintro e w1 ⟨rfl, hb1⟩; have B1 := Lib.hid (HBX.out.trans (hb1.mono HBX.out.size)); have Z9 := Lib.hid ((hb1.block _ lZ).trans HZ.out); clear hb1 g0 g1 c0 c1)
      | (with_reducible (show wpList _ _ _ (⟨none, .store 30 (.tmp 10) (.tmp 25), _, _, _, _⟩ :: _) _ _); refine wpList_store_row (o := ⟨none, .store 30 (.tmp 10) (.tmp 25), _, _, _, _⟩) rfl 30 (.tmp 10) (.tmp 25) rfl (w.heap.size + 1 + 1) (rc 0 0 0 0 none 0 0) rfl rfl 30 #[.int .i64 0, .int .i64 0, .int .i64 0, .int .i64 0, .slice none 0 0] Z9.out (info37 _ _ _ _ _ _ _) rfl (rc_one _ _ _ _ _ _ _) ?_))
    refine bodyPost_ret (v := .tuple #[.agg (rc 0 0 0 0 none 0 0), .bool false]) (results_cell_row2 (fn := Tryz.f17) (p := 10) (u := 11) rfl _ _ (w.heap.size + 1 + 1) 30 (rc 0 0 0 0 none 0 0) (0, 0) _ rfl (setRow_heap _ _ _ _ _ _ Z9.out) Tryz.underlying30 rfl (info37 _ _ _ _ _ _ _)) rfl ?_
    exact .inl ⟨HM.out, rfl, below_setRow B1.out (by omega) _⟩
  | true =>
    cases ob with
    | true =>
      have HM := Lib.hid (show mb = true from HMY.out)
      go_enter Tryz.func17, Tryz.ntmps17
      go_wp2_with (first
        | (go_at_call 48; rw [HFD.out, HFE.out]; refine HEX.out.mono ?_; rintro e w1 ⟨rfl, hb1⟩; have B1 := Lib.hid (HBX.out.trans (hb1.mono HBX.out.size)); have D3 := Lib.hid ((hb1.block _ lD).trans D2.out); have E3 := Lib.hid ((hb1.block _ lE).trans E2.out); have Z3 := Lib.hid ((hb1.block _ lZ).trans HZ.out); clear hb1 g0 g1 c0 c1; obtain ⟨c0, c1⟩ := geCells E3.out)
        | (go_at_call 46; rw [HFE.out]; refine (HLK.out _ B1.out).mono ?_; rintro e w2 ⟨rfl, hb2⟩; have B2 := Lib.hid (B1.out.trans (hb2.mono B1.out.size)); have Z9 := Lib.hid ((hb2.block _ (row_lt Z3.out)).trans Z3.out); clear hb2 c0 c1)
        | (with_reducible (show wpList _ _ _ (⟨none, .store 30 (.tmp 10) (.tmp 37), _, _, _, _⟩ :: _) _ _); refine wpList_store_row (o := ⟨none, .store 30 (.tmp 10) (.tmp 37), _, _, _, _⟩) rfl 30 (.tmp 10) (.tmp 37) rfl (w.heap.size + 1 + 1) (rc (P : Int) (t : Int) oi (-1) none 0 0) rfl rfl 30 #[.int .i64 0, .int .i64 0, .int .i64 0, .int .i64 0, .slice none 0 0] Z9.out (info37 _ _ _ _ _ _ _) rfl (rc_one _ _ _ _ _ _ _) ?_))
      refine bodyPost_ret (v := .tuple #[.agg (rc (P : Int) (t : Int) oi (-1) none 0 0), .bool true]) (results_cell_row2 (fn := Tryz.f17) (p := 10) (u := 11) rfl _ _ (w.heap.size + 1 + 1) 30 (rc (P : Int) (t : Int) oi (-1) none 0 0) (0, 0) _ rfl (setRow_heap _ _ _ _ _ _ Z9.out) Tryz.underlying30 rfl (info37 _ _ _ _ _ _ _)) rfl ?_
      exact .inr ⟨HM.out, oi, -1, [], none, 0, rfl, Nat.le_refl _, .inl (by simp), row_none _ _ _, below_setRow B2.out (by omega) _⟩
    | false =>
      cases kb with
      | false =>
        have HM := Lib.hid (show mb = false from HMY.out)
        go_enter Tryz.func17, Tryz.ntmps17
        go_wp2_with (first
          | (go_at_call 48; rw [HFD.out, HFE.out]; refine HEX.out.mono ?_; rintro e w1 ⟨rfl, hb1⟩; have B1 := Lib.hid (HBX.out.trans (hb1.mono HBX.out.size)); have D3 := Lib.hid ((hb1.block _ lD).trans D2.out); have E3 := Lib.hid ((hb1.block _ lE).trans E2.out); have Z3 := Lib.hid ((hb1.block _ lZ).trans HZ.out); clear hb1 g0 g1 c0 c1; obtain ⟨c0, c1⟩ := geCells E3.out)
          | (go_at_call 46; rw [HFE.out]; refine (HLK.out _ B1.out).mono ?_; rintro e w2 ⟨rfl, hb2⟩; have B2 := Lib.hid (B1.out.trans (hb2.mono B1.out.size)); have D4 := Lib.hid ((hb2.block _ (row_lt D3.out)).trans D3.out); have E4 := Lib.hid ((hb2.block _ (row_lt E3.out)).trans E3.out); have Z4 := Lib.hid ((hb2.block _ (row_lt Z3.out)).trans Z3.out); clear hb2 c0 c1; obtain ⟨c0, c1⟩ := geCells E4.out; obtain ⟨g0, g1⟩ := gdCells D4.out)
          | (go_at_call 49; rw [HFD.out, HFE.out]; refine (HKY.out _ B2.out).mono ?_; rintro e w3 ⟨q, b, rfl, rfl, -, hb3⟩; have B3 := Lib.hid (B2.out.trans (hb3.mono B2.out.size)); have Z9 := Lib.hid ((hb3.block _ (row_lt Z4.out)).trans Z4.out); clear hb3 g0 g1 c0 c1)
          | (with_reducible (show wpList _ _ _ (⟨none, .store 30 (.tmp 10) (.tmp 49), _, _, _, _⟩ :: _) _ _); refine wpList_store_row (o := ⟨none, .store 30 (.tmp 10) (.tmp 49), _, _, _, _⟩) rfl 30 (.tmp 10) (.tmp 49) rfl (w.heap.size + 1 + 1) (rc 0 0 0 0 none 0 0) rfl rfl 30 #[.int .i64 0, .int .i64 0, .int .i64 0, .int .i64 0, .slice none 0 0] Z9.out (info37 _ _ _ _ _ _ _) rfl (rc_one _ _ _ _ _ _ _) ?_))
        refine bodyPost_ret (v := .tuple #[.agg (rc 0 0 0 0 none 0 0), .bool false]) (results_cell_row2 (fn := Tryz.f17) (p := 10) (u := 11) rfl _ _ (w.heap.size + 1 + 1) 30 (rc 0 0 0 0 none 0 0) (0, 0) _ rfl (setRow_heap _ _ _ _ _ _ Z9.out) Tryz.underlying30 rfl (info37 _ _ _ _ _ _ _)) rfl ?_
        exact .inl ⟨HM.out, rfl, below_setRow B3.out (by omega) _⟩
      | true =>
        have HM := Lib.hid (show mb = true from HMY.out)
        go_enter Tryz.func17, Tryz.ntmps17
        go_wp2_with (first
          | (go_at_call 48; rw [HFD.out, HFE.out]; refine HEX.out.mono ?_; rintro e w1 ⟨rfl, hb1⟩; have B1 := Lib.hid (HBX.out.trans (hb1.mono HBX.out.size)); have D3 := Lib.hid ((hb1.block _ lD).trans D2.out); have E3 := Lib.hid ((hb1.block _ lE).trans E2.out); have Z3 := Lib.hid ((hb1.block _ lZ).trans HZ.out); clear hb1 g0 g1 c0 c1; obtain ⟨c0, c1⟩ := geCells E3.out)
          | (go_at_call 46; rw [HFE.out]; refine (HLK.out _ B1.out).mono ?_; rintro e w2 ⟨rfl, hb2⟩; have B2 := Lib.hid (B1.out.trans (hb2.mono B1.out.size)); have D4 := Lib.hid ((hb2.block _ (row_lt D3.out)).trans D3.out); have E4 := Lib.hid ((hb2.block _ (row_lt E3.out)).trans E3.out); have Z4 := Lib.hid ((hb2.block _ (row_lt Z3.out)).trans Z3.out); clear hb2 c0 c1; obtain ⟨c0, c1⟩ := geCells E4.out; obtain ⟨g0, g1⟩ := gdCells D4.out))
        rw [HFD.out, HFE.out]
        refine (HKY.out _ B2.out).mono ?_
        rintro e w3 ⟨zq, b, rfl, rfl, hkey, hb3⟩
        obtain ⟨q, rfl, hq1, hq2⟩ := hkey rfl
        obtain ⟨hu1, hu2, hu3, hu4⟩ := HUP.out q hq2
        have B3 := Lib.hid (B2.out.trans (hb3.mono B2.out.size))
        have D5 := Lib.hid ((hb3.block _ (row_lt D4.out)).trans D4.out)
        have E5 := Lib.hid ((hb3.block _ (row_lt E4.out)).trans E4.out)
        have Z5 := Lib.hid ((hb3.block _ (row_lt Z4.out)).trans Z4.out)
        obtain ⟨gk, hgk⟩ := Option.isSome_iff_exists.1 hu3
        have hgt := HGT.out q (by omega) w3 B3.out
        rw [hgk] at hgt
        have HG := Lib.hid (show Calls Tryz.prog 50 #[.agg (ge a u), .int .i64 (P : Int), .int .i64 (q : Int), .int .i64 (t : Int)] w3 fun e w' => e = .returned (.tuple #[.int .i64 (gk : Int), .bool true]) ∧ Below w3.heap.size w3 w' from hgt)
        have HGK := Lib.hid hgk
        have HU := Lib.hid hu2
        have HU4 := Lib.hid hu4
        clear hkey hq2 hu2 hu3 hu4 hb3 hgt hgk g0 g1 c0 c1
        obtain ⟨c0, c1⟩ := geCells E5.out
        by_cases hqp : q = p
        · have hpq := hqp.symm
          subst hpq
          have e5 : ((p : Int) != (p : Int)) = false := by simp
          go_wp2_with (first
            | (go_at_call 50; rw [HFE.out]; refine HG.out.mono ?_; rintro e w5 ⟨rfl, hb5⟩; have B6 := Lib.hid (B3.out.trans (hb5.mono B3.out.size)); have D6 := Lib.hid ((hb5.block _ (row_lt D5.out)).trans D5.out); have Z6 := Lib.hid ((hb5.block _ (row_lt Z5.out)).trans Z5.out); have hbn := box_below w5 (.cells #[.int .i64 (p : Int)] 3); have Z9 := Lib.hid ((hbn.block _ (row_lt Z6.out)).trans Z6.out); have B7 := Lib.hid (B6.out.trans (hbn.mono B6.out.size)); have LR6 := Lib.hid (lits_row w5 w5.heap.size rfl [p] #[.int .i64 (p : Int)] rfl 3); have l56 : w.heap.size + 1 + 1 < w5.heap.size := row_lt Z6.out; have D7 := Lib.hid ((hbn.block _ (row_lt D6.out)).trans D6.out); clear hb5 hbn c0 c1; obtain ⟨g0, g1⟩ := gdCells D7.out)
            | (with_reducible (show wpList _ _ _ (⟨none, .store 30 (.tmp 10) (.tmp 75), _, _, _, _⟩ :: _) _ _); refine wpList_store_row (o := ⟨none, .store 30 (.tmp 10) (.tmp 75), _, _, _, _⟩) rfl 30 (.tmp 10) (.tmp 75) rfl (w.heap.size + 1 + 1) (rc (P : Int) (t : Int) (-1) (gk : Int) (some ⟨w5.heap.size, 0, none⟩) 1 1) rfl rfl 30 #[.int .i64 0, .int .i64 0, .int .i64 0, .int .i64 0, .slice none 0 0] Z9.out (info37 _ _ _ _ _ _ _) rfl (rc_one _ _ _ _ _ _ _) ?_))
          refine bodyPost_ret (v := .tuple #[.agg (rc (P : Int) (t : Int) (-1) (gk : Int) (some ⟨w5.heap.size, 0, none⟩) 1 1), .bool true]) (results_cell_row2 (fn := Tryz.f17) (p := 10) (u := 11) rfl _ _ (w.heap.size + 1 + 1) 30 (rc (P : Int) (t : Int) (-1) (gk : Int) (some ⟨w5.heap.size, 0, none⟩) 1 1) (0, 0) _ rfl (setRow_heap _ _ _ _ _ _ Z9.out) Tryz.underlying30 rfl (info37 _ _ _ _ _ _ _)) rfl ?_
          exact .inr ⟨HM.out, -1, (gk : Int), [p], _, 1, rfl, Nat.le_refl _, .inr ⟨by first | rfl | trivial, rfl, p, gk, rfl, hq1, HGK.out, .inl ⟨rfl, rfl⟩⟩, ((LR6.out.set (by omega) _).base (by omega)), below_setRow B7.out (by omega) _⟩
        · have e5 : ((q : Int) != (p : Int)) = true := bne_iff_ne.2 (by omega)
          have e5n : (q != p) = true := bne_iff_ne.2 hqp
          have hin : InG d t p q := ⟨hu1, hq1, by rcases HU4.out with h | h; exact absurd h hqp; exact h.2, fun e => hqp e.symm, HU.out⟩
          have HIN := Lib.hid hin
          clear hin
          go_wp2_with (go_at_call 50; rw [HFE.out]; refine HG.out.mono ?_; rintro e w5 ⟨rfl, hb5⟩; have B6 := Lib.hid (B3.out.trans (hb5.mono B3.out.size)); have D6 := Lib.hid ((hb5.block _ (row_lt D5.out)).trans D5.out); have Z6 := Lib.hid ((hb5.block _ (row_lt Z5.out)).trans Z5.out); have hbn := box_below w5 (.cells #[.int .i64 (p : Int)] 3); have Z9 := Lib.hid ((hbn.block _ (row_lt Z6.out)).trans Z6.out); have B7 := Lib.hid (B6.out.trans (hbn.mono B6.out.size)); have LR6 := Lib.hid (lits_row w5 w5.heap.size rfl [p] #[.int .i64 (p : Int)] rfl 3); have l56 : w.heap.size + 1 + 1 < w5.heap.size := row_lt Z6.out; have D7 := Lib.hid ((hbn.block _ (row_lt D6.out)).trans D6.out); clear hb5 hbn c0 c1; obtain ⟨g0, g1⟩ := gdCells D7.out)
          rw [HFD.out]
          refine (HWY.out q _ B7.out).mono ?_
          rintro e w8 (⟨-, L, A8, c8, rfl, hch, hcc, hrow, hb8⟩ | ⟨hno, -⟩)
          · have HCH := Lib.hid hch
            have HRW := Lib.hid (hrow.base (Nat.zero_le _))
            have HRL := Lib.hid hrow
            have Z10 := (hb8.block _ (row_lt Z9.out)).trans Z9.out
            have B8 := Lib.hid (B7.out.trans (hb8.mono B7.out.size))
            have l9 : w.heap.size + 1 + 1 < (w5.alloc (.cells #[.int .i64 (p : Int)] 3)).heap.size := by simp; omega
            have L9 := Lib.hid l9
            obtain ⟨ln, hln⟩ : ∃ ln, L.length = ln := ⟨_, rfl⟩
            rw [hln] at HRW HRL hcc ⊢
            have HLN := Lib.hid hln
            have HCC := Lib.hid hcc
            clear Z9 hch hrow hb8 l9 hln hcc g0 g1
            have Z9 := Lib.hid Z10
            clear Z10
            go_wp2_with (first
              | (with_reducible (show wpList _ _ _ (⟨none, .store 30 (.tmp 10) (.tmp 75), _, _, _, _⟩ :: _) _ _); refine wpList_store_row (o := ⟨none, .store 30 (.tmp 10) (.tmp 75), _, _, _, _⟩) rfl 30 (.tmp 10) (.tmp 75) rfl (w.heap.size + 1 + 1) (rc (P : Int) (t : Int) (-1) (gk : Int) A8 ln c8) rfl rfl 30 #[.int .i64 0, .int .i64 0, .int .i64 0, .int .i64 0, .slice none 0 0] Z9.out (info37 _ _ _ _ _ _ _) rfl (rc_one _ _ _ _ _ _ _) ?_))
            refine bodyPost_ret (v := .tuple #[.agg (rc (P : Int) (t : Int) (-1) (gk : Int) A8 ln c8), .bool true]) (results_cell_row2 (fn := Tryz.f17) (p := 10) (u := 11) rfl _ _ (w.heap.size + 1 + 1) 30 (rc (P : Int) (t : Int) (-1) (gk : Int) A8 ln c8) (0, 0) _ rfl (setRow_heap _ _ _ _ _ _ Z9.out) Tryz.underlying30 rfl (info37 _ _ _ _ _ _ _)) rfl ?_
            exact .inr ⟨HM.out, -1, (gk : Int), L, A8, c8, by rw [HLN.out], by rw [HLN.out]; exact HCC.out, .inr ⟨by first | rfl | trivial, rfl, q, gk, rfl, hq1, HGK.out, .inr ⟨hqp, HCH.out⟩⟩, (by rw [HLN.out]; exact ((HRL.out.set L9.out _).base (by have := L9.out; omega))), below_setRow B8.out (by omega) _⟩
          · exact absurd HIN.out hno

end Go.Proofs.YtgknfkmojhganaaGreat.Di

namespace Go.Proofs.YtgknfkmojhganaaGreat.Di
open Go.RowKit
open Go.Proofs.YtgknfkmojhganaaGreat.Tp
set_option linter.unusedVariables false
set_option linter.unusedSimpArgs false

theorem below_dn3 {B : Nat} {w w2 : World} (h : Below B w w2) (n : Nat) : Below B w (w2.drewN n) := ⟨h.os, h.tape, h.output, h.size, h.block⟩
set_option maxRecDepth 100000 in
set_option maxHeartbeats 8000000 in
/-- The reference finds that a reading with a chain proves. -/
theorem rread_any (d : Dy) (v : Vd) (a : Es) (u : Ve) (p P t q gk cs : Nat) (As : Option Addr) (l : List Nat) (w : World) (h : DL w 0 d v) (hok : Ok d) (he : EL w 0 a u) (hea : Eok a) (hP : (P : Int) < a.n)
    (hrb : rB d p = true) (hgr : grA a.e (P : Int) (t : Int) (q : Int) = some gk) (hl : Row w 0 1 As l.length (iv l)) (hch : Chain (dm d t) d.k.length p q l) (hcs : l.length ≤ cs) :
    Calls Tryz.prog 20 #[.agg (gd d v), .agg (ge a u), .int .i64 (p : Int), .agg (rc (P : Int) (t : Int) (-1) (gk : Int) As l.length cs)] w fun e w' => e = .returned (.bool true) ∧ Below w.heap.size w w' := by
  obtain ⟨A, vc⟩ := u
  have hbx := (box_below w (.cells (gd d v) 25)).trans ((box_below (w.alloc (.cells (gd d v) 25)) (.cells (ge a ⟨A, vc⟩) 28)).mono (by simp))
  have hw1 : ((w.alloc (.cells (gd d v) 25)).alloc (.cells (ge a ⟨A, vc⟩) 28)).heap.size = w.heap.size + 1 + 1 := by simp
  have D1 := heap_alloc2_old w (.cells (gd d v) 25) (.cells (ge a ⟨A, vc⟩) 28)
  have E1 := heap_alloc2_new w (.cells (gd d v) 25) (.cells (ge a ⟨A, vc⟩) 28)
  have hn := hok.n
  have hl2 := hch.two
  have hln := hch.le
  have hbz := box_below ((w.alloc (.cells (gd d v) 25)).alloc (.cells (ge a ⟨A, vc⟩) 28)) (.cells (rc (P : Int) (t : Int) (-1) (gk : Int) As l.length cs) 30)
  have hbxz := hbx.trans (hbz.mono hbx.size)
  have HBX := Lib.hid hbxz
  have D2 := Lib.hid ((hbz.block _ (row_lt D1)).trans D1)
  have E2 := Lib.hid ((hbz.block _ (row_lt E1)).trans E1)
  have Z2 := heap_alloc_new ((w.alloc (.cells (gd d v) 25)).alloc (.cells (ge a ⟨A, vc⟩) 28)) (.cells (rc (P : Int) (t : Int) (-1) (gk : Int) As l.length cs) 30)
  rw [hw1] at Z2
  have HZ := Lib.hid Z2
  obtain ⟨g0, g1⟩ := gdCells D2.out
  obtain ⟨c0, c1⟩ := geCells E2.out
  obtain ⟨r0, r1, r2, r3, r4⟩ := rcCells Z2
  have HVA := Lib.hid (rvalid_any d v _ (h.below hbxz) hok)
  have HPL := Lib.hid (fun w' (hb : Below w.heap.size w w') => place_yes a ⟨A, vc⟩ (P : Int) w' (vay_of (Row.below he hb) hea) ⟨hea.n1, hea.n16⟩ ⟨by omega, hP⟩)
  have hrd := fun w' (hb : Below w.heap.size w w') => reader_any 0 d v p w' (h.below hb) (by omega)
  rw [hrb] at hrd
  have HRD := Lib.hid hrd
  have hrg := fun w' (hb : Below w.heap.size w w') => rGrant_any a ⟨A, vc⟩ (P : Int) (q : Int) (t : Int) w' (Row.below he hb) hea ⟨by omega, hP⟩
  rw [hgr] at hrg
  have HRG := Lib.hid hrg
  have HRP := Lib.hid (fun w' (hb : Below w.heap.size w w') => rproves_any d v t p q cs As l w' (h.below hb) hok (Row.below hl hb) hch hcs)
  have hgl := gr_lt _ _ _ _ _ _ hgr
  obtain ⟨x1, x2, x3, x4, -⟩ := gr_is _ _ _ _ _ _ hgr
  have HEV := Lib.hid (fun w' (hb : Below w.heap.size w w') => Row.ac (Row.below he hb) hgl)
  have HLV := Lib.hid (fun w' (hb : Below w.heap.size w w') i (hi : i < l.length) => (Row.below hl hb).int hi)
  have hhd := hch.hd
  have hla := hch.last
  have hm := hea.m
  have HFD := Lib.hid (show (#[.slice v.A1 d.k.length v.c1, .slice v.A2 d.e.length v.c2] : Array Value) = gd d v from rfl)
  have HFE := Lib.hid (show (#[.int .i64 a.n, .slice A a.e.length vc] : Array Value) = ge a ⟨A, vc⟩ from rfl)
  have lD := row_lt D2.out
  have lE := row_lt E2.out
  have lZ := row_lt Z2
  clear h hok he hea hP hrb hgr hl hch hbx hbz hbxz hw1 D1 E1 Z2 hrd hrg
  go_enter Tryz.func20, Tryz.ntmps20
  go_wp2_with (first
    | (go_at_call 41; rw [HFD.out]; refine HVA.out.mono ?_; rintro e w1 ⟨rfl, hb1⟩; have B1 := Lib.hid (HBX.out.trans (hb1.mono HBX.out.size)); have D3 := Lib.hid ((hb1.block _ lD).trans D2.out); have E3 := Lib.hid ((hb1.block _ lE).trans E2.out); have Z3 := Lib.hid ((hb1.block _ lZ).trans HZ.out); clear hb1 g0 g1 c0 c1 r0 r1 r2 r3 r4; obtain ⟨c0, c1⟩ := geCells E3.out; obtain ⟨r0, r1, r2, r3, r4⟩ := rcCells Z3.out)
    | (go_at_call 42; rw [HFE.out]; refine (HPL.out _ B1.out).mono ?_; rintro e w2 ⟨rfl, hb2⟩; have B2 := Lib.hid (B1.out.trans (hb2.mono B1.out.size)); have D4 := Lib.hid ((hb2.block _ (row_lt D3.out)).trans D3.out); have E4 := Lib.hid ((hb2.block _ (row_lt E3.out)).trans E3.out); have Z4 := Lib.hid ((hb2.block _ (row_lt Z3.out)).trans Z3.out); clear hb2 c0 c1 r0 r1 r2 r3 r4; obtain ⟨g0, g1⟩ := gdCells D4.out))
  rw [HFD.out]
  refine (HRD.out _ B2.out).mono ?_
  rintro e w3 ⟨rfl, hb3⟩
  have B3 := Lib.hid (B2.out.trans (hb3.mono B2.out.size))
  have D5 := Lib.hid ((hb3.block _ (row_lt D4.out)).trans D4.out)
  have E5 := Lib.hid ((hb3.block _ (row_lt E4.out)).trans E4.out)
  have Z5 := Lib.hid ((hb3.block _ (row_lt Z4.out)).trans Z4.out)
  clear hb3 g0 g1
  obtain ⟨bw, ow, hAs, -, lbw, y9⟩ := HLV.out w3 B3.out 0 (by omega)
  rw [hhd] at y9
  subst hAs
  rw [Nat.add_zero] at y9
  obtain ⟨b, off, hA, -, hbk, hac⟩ := HEV.out w3 B3.out
  have hA : A = some ⟨b, off, none⟩ := hA
  subst hA
  obtain ⟨y0, y1, y2, y3, y4, y5, y6⟩ := hac
  obtain ⟨c0, c1⟩ := geCells E5.out
  obtain ⟨r0, r1, r2, r3, r4⟩ := rcCells Z5.out
  generalize ag a.e gk = x at *
  obtain ⟨xt, xk, xp, xr, xu, xc, xf⟩ := x
  simp only at y0 y1 y2 y3 y4 y5 y6 x1 x2 x3 x4
  subst x1 x2 x3
  have hbx := box_below w3 (.cells #[.int .i64 xt, .int .i64 1, .int .i64 (P : Int), .int .i64 (q : Int), .int .i64 xu, .int .i64 xc, .int .i64 xf] 76)
  have XN := heap_alloc_new w3 (.cells #[.int .i64 xt, .int .i64 1, .int .i64 (P : Int), .int .i64 (q : Int), .int .i64 xu, .int .i64 xc, .int .i64 xf] 76)
  obtain ⟨n0, n1, n2, n3, n4, n5, n6⟩ := accCells (x := ⟨xt, 1, (P : Int), (q : Int), xu, xc, xf⟩) XN
  simp only at n0 n1 n2 n3 n4 n5 n6
  have B6 := Lib.hid (B3.out.trans (hbx.mono B3.out.size))
  have D6 := Lib.hid ((hbx.block _ (row_lt D5.out)).trans D5.out)
  have E6 := Lib.hid ((hbx.block _ (row_lt E5.out)).trans E5.out)
  have Z6 := Lib.hid ((hbx.block _ (row_lt Z5.out)).trans Z5.out)
  have XM := Lib.hid XN
  obtain ⟨s0, s1, s2, s3, s4⟩ := rcCells Z6.out
  obtain ⟨t0, t1⟩ := geCells E6.out
  obtain ⟨bw2, ow2, hAs2, -, -, z9⟩ := HLV.out _ B6.out (l.length - 1) (by omega)
  cases hAs2
  rw [hla] at z9
  obtain ⟨ln, hlen⟩ : ∃ ln, l.length = ln + 1 := ⟨l.length - 1, by omega⟩
  have HLEN := Lib.hid hlen
  rw [hlen] at hl2 hln hcs r4 s4 HRP z9 ⊢
  rw [show ln + 1 - 1 = ln by omega] at z9
  have d1 : decide ((gk : Int) < 0) = false := decide_eq_false (by omega)
  have d2 : decide ((a.e.length : Int) ≤ (gk : Int)) = false := decide_eq_false (by omega)
  have d2n : ¬ a.e.length ≤ gk := by omega
  have d3 : (((ln : Int) + 1) == 0) = false := beq_eq_false_iff_ne.2 (by omega)
  have d4 : (((ln : Int) + 1) == 1) = false := beq_eq_false_iff_ne.2 (by omega)
  have e1 : ((p : Int) != (p : Int)) = false := by simp
  have e2 : ((P : Int) != (P : Int)) = false := by simp
  have e3 : ((q : Int) != (q : Int)) = false := by simp
  have e4 : decide ((t : Int) < xt) = false := decide_eq_false (by omega)
  have i0 : (0 : Int) ≤ (gk : Int) := by omega
  have i1 : (gk : Int) < (a.e.length : Int) := by omega
  have j0 : (0 : Int) < (ln : Int) + 1 := by omega
  have j1 : (0 : Int) ≤ (ln : Int) := by omega
  have j2 : (ln : Int) < (ln : Int) + 1 := by omega
  have hw0 : IntKind.i64.wrap ((ln : Int) + 1 - 1) = (ln : Int) := by rw [show (ln : Int) + 1 - 1 = (ln : Int) by omega]; exact IntWalk.i64_in _ (by omega)
  have hw2 : IntKind.i64.wrap (ln : Int) = (ln : Int) := IntWalk.i64_in _ (by omega)
  clear hbx XN hhd hla hlen
  go_wp2_with fail
  go_quiet (fail)
  go_wp2_with (first
    | (go_at_call 53; rw [HFE.out]; refine (HRG.out _ (below_dn3 B6.out _)).mono ?_; rintro e w8 ⟨⟨z, rfl⟩, hb8⟩; have B8 := Lib.hid ((below_dn3 B6.out _).trans (hb8.mono (below_dn3 B6.out _).size)); have Z8 := (hb8.block _ (row_lt Z6.out)).trans Z6.out; have D8 := (hb8.block _ (row_lt D6.out)).trans D6.out; clear hb8 c0 c1 r0 r1 r2 r3 r4 s0 s1 s2 s3 s4 t0 t1; obtain ⟨r0, r1, r2, r3, r4⟩ := rcCells Z8; obtain ⟨g0, g1⟩ := gdCells D8; rw [HLEN.out] at r4; (try simp only [Option.isSome]))
    | (go_at_call 54; rw [HFD.out]; refine (HRP.out _ B8.out).mono ?_; rintro e w9 ⟨rfl, hb9⟩; have B9 := Lib.hid (B8.out.trans (hb9.mono B8.out.size)); clear hb9))
  go_ret
  exact ⟨by first | rfl | simp, B9.out⟩

end Go.Proofs.YtgknfkmojhganaaGreat.Di

namespace Go.Proofs.YtgknfkmojhganaaGreat.Di
open Go.RowKit
open Go.Proofs.YtgknfkmojhganaaGreat.Tp
set_option linter.unusedVariables false
set_option linter.unusedSimpArgs false

/-- The law's example: a group with a grant, of which a person is a member. -/
def exD : Dy := ⟨[1, 2], [⟨0, 1, 0, 1⟩]⟩
def exA : Es := ⟨1, [⟨0, 1, 0, 1, 0, 0, 0⟩]⟩
theorem exD_ok : Ok exD := by
  refine ⟨by decide, by decide, fun p hp => ?_, fun j hj => ?_, fun j hj => absurd hj (by show ¬ j + 1 < 1; omega)⟩
  · have hp : p < 2 := hp
    have : p = 0 ∨ p = 1 := by omega
    rcases this with rfl | rfl <;> decide
  · have hj : j < 1 := hj
    obtain rfl : j = 0 := by omega
    exact ⟨.inl rfl, by decide, by decide, by decide, by decide, by decide⟩
theorem exA_ok : Eok exA := by
  refine ⟨by decide, by decide, by decide, fun j hj => ?_, fun j hj => absurd hj (by show ¬ j + 1 < 1; omega)⟩
  have hj : j < 1 := hj
  obtain rfl : j = 0 := by omega
  exact ⟨by decide, by decide, by decide, by decide, .inl ⟨.inl rfl, by decide, by decide, rfl, rfl, rfl⟩⟩
theorem exA_lk : lkA exA.e 0 0 = none := by decide
theorem exA_gr : grA exA.e 0 0 1 = some 0 := by decide
theorem exA_g0 : grA exA.e 0 0 0 = none := by decide
theorem exD_up : upB exD 0 0 1 = true := (upB_iff _ _ _ _).2 ⟨by decide, .step .here (by decide) (by decide) (by decide)⟩
theorem ex_may0 : mayB exD exA 0 0 0 = true := by
  rw [may_is, show rB exD 0 = true from by decide, Bool.true_and, (any_iff _ _).2 ⟨1, by decide, ?_⟩, Bool.or_true]
  unfold keyB
  rw [exD_up, gdB_yes ⟨exA_ok, by decide, by decide⟩, Bool.true_and]
  show (grA exA.e 0 0 1).isSome = true
  rw [exA_gr]
  rfl
theorem ex_may1 : mayB exD exA 1 0 0 = false := by
  rw [may_is, show rB exD 1 = false from by decide, Bool.false_and]
theorem ex_idx : idx (fun p => mayB exD exA p 0 0) 2 = [0] ∧ cnt (fun p => mayB exD exA p 0 0) 2 = 1 := by
  have h0 : (fun p => mayB exD exA p 0 0) 0 = true := ex_may0
  have h1 : (fun p => mayB exD exA p 0 0) 1 = false := ex_may1
  generalize (fun p => mayB exD exA p 0 0) = m at *
  rw [idx_ff h1, idx_tt h0, cnt_ff h1, cnt_tt h0]
  exact ⟨rfl, rfl⟩
theorem ex_rdg {lk gk : Int} {L : List Nat} (h : Rdg exD exA 0 0 0 lk gk L) : lk = -1 ∧ gk = ((0 : Nat) : Int) ∧ Chain (dm exD 0) exD.k.length 0 1 L := by
  rcases h with ⟨h1, -⟩ | ⟨-, h2, q, g, h3, h4, h5, h6⟩
  · exact absurd h1 (by show ¬ (lkA exA.e 0 0).isSome = true; rw [exA_lk]; decide)
  · have h4 : q < 2 := h4
    have h5 : grA exA.e 0 0 (q : Int) = some g := h5
    have hq : q = 0 ∨ q = 1 := by omega
    rcases hq with rfl | rfl
    · exact absurd (exA_g0.symm.trans h5) (by simp)
    · have hg : g = 0 := by
        have := exA_gr.symm.trans h5
        exact (Option.some.inj this).symm
      subst hg
      refine ⟨h2, h3, ?_⟩
      rcases h6 with ⟨h7, -⟩ | ⟨-, h8⟩
      · cases h7
      · exact h8
theorem row_blk {w : World} {g : Nat} {cs : Array Value} {t : TypeId} {s n : Nat} (h : w.heap[g]? = some (.cells cs t (0, 0))) (hn : cs.size = n * s) : Row w 0 s (some ⟨g, 0, none⟩) n cs.toList :=
  ⟨by simpa using hn, fun _ => ⟨g, 0, rfl, Nat.zero_le _, row_lt h, fun j u hj => by
    rw [Nat.zero_add, cell_of_row _ _ _ _ _ _ h, ← Array.getElem?_toList]
    exact hj⟩⟩
def vD (s : Nat) : Vd := ⟨some ⟨s, 0, none⟩, 2, some ⟨s + 1, 0, none⟩, 1⟩
def vA (s : Nat) : Ve := ⟨some ⟨s + 1 + 1 + 1, 0, none⟩, 1⟩
set_option maxRecDepth 100000 in
set_option maxHeartbeats 8000000 in
theorem awake_any (w : World) : Calls Tryz.prog 9 #[] w fun e w' => e = .returned (.bool true) ∧ Below w.heap.size w w' := by
  obtain ⟨b0, b1, b2, b3, b4, b5, b6⟩ := boxes5 w (.cells #[.int .i64 1, .int .i64 2] 3) (.cells #[.int .i64 0, .int .i64 1, .int .i64 0, .int .i64 1] 79) (.cells (gd exD (vD w.heap.size)) 25) (.cells #[.int .i64 0, .int .i64 1, .int .i64 0, .int .i64 1, .int .i64 0, .int .i64 0, .int .i64 0] 76) (.cells (ge exA (vA w.heap.size)) 28)
  have B5 := Lib.hid b5
  have HDB := Lib.hid b2
  have HEB := Lib.hid b4
  have HDL := Lib.hid (show DL _ 0 exD (vD w.heap.size) from ⟨row_blk b0 rfl, row_blk b1 rfl⟩)
  have HEL := Lib.hid (show EL _ 0 exA (vA w.heap.size) from row_blk b3 rfl)
  clear b0 b1 b2 b3 b4 b5 b6
  have HFD := Lib.hid (show (#[.slice (some ⟨w.heap.size, 0, none⟩) 2 2, .slice (some ⟨w.heap.size + 1, 0, none⟩) 1 1] : Array Value) = gd exD (vD w.heap.size) from rfl)
  have HFE := Lib.hid (show (#[.int .i64 1, .slice (some ⟨w.heap.size + 1 + 1 + 1, 0, none⟩) 1 1] : Array Value) = ge exA (vA w.heap.size) from rfl)
  go_enter Tryz.func9, Tryz.ntmps9
  go_wp2_with fail
  rw [HFD.out, HFE.out]
  have hwho := who_any exD (vD w.heap.size) exA (vA w.heap.size) 0 0 _ HDL.out exD_ok HEL.out exA_ok (by decide)
  refine hwho.mono ?_
  rintro e w1 ⟨X, xc, rfl, hrow, hb1⟩
  have hr1 := hrow.base (Nat.zero_le _)
  clear hwho hrow
  obtain ⟨hi1, hi2⟩ := ex_idx
  have hl2 : exD.k.length = 2 := rfl
  rw [hl2, hi1, hi2] at hr1
  rw [hl2, hi2, show lkA exA.e ((0 : Nat) : Int) ((0 : Nat) : Int) = none from exA_lk]
  clear hi1 hi2 hl2
  simp only [Option.isSome]
  have HKB := Lib.hid (fun w' (hb : Below (((((w.alloc (.cells #[.int .i64 1, .int .i64 2] 3)).alloc (.cells #[.int .i64 0, .int .i64 1, .int .i64 0, .int .i64 1] 79)).alloc (.cells (gd exD (vD w.heap.size)) 25)).alloc (.cells #[.int .i64 0, .int .i64 1, .int .i64 0, .int .i64 1, .int .i64 0, .int .i64 0, .int .i64 0] 76)).alloc (.cells (ge exA (vA w.heap.size)) 28)).heap.size (((((w.alloc (.cells #[.int .i64 1, .int .i64 2] 3)).alloc (.cells #[.int .i64 0, .int .i64 1, .int .i64 0, .int .i64 1] 79)).alloc (.cells (gd exD (vD w.heap.size)) 25)).alloc (.cells #[.int .i64 0, .int .i64 1, .int .i64 0, .int .i64 1, .int .i64 0, .int .i64 0, .int .i64 0] 76)).alloc (.cells (ge exA (vA w.heap.size)) 28)) w') => (by
    obtain ⟨k0, k1⟩ := gdCells ((hb.block _ (row_lt HDB.out)).trans HDB.out)
    obtain ⟨k2, k3⟩ := geCells ((hb.block _ (row_lt HEB.out)).trans HEB.out)
    exact ⟨k0, k1, k2, k3, HDL.out.below hb, Row.below HEL.out hb, B5.out.trans (hb.mono B5.out.size)⟩ : w'.cell? ⟨w.heap.size + 2, 0, none⟩ = some (.slice (some ⟨w.heap.size, 0, none⟩) 2 2) ∧ w'.cell? ⟨w.heap.size + 2, 1, none⟩ = some (.slice (some ⟨w.heap.size + 1, 0, none⟩) 1 1) ∧ w'.cell? ⟨w.heap.size + 4, 0, none⟩ = some (.int .i64 1) ∧ w'.cell? ⟨w.heap.size + 4, 1, none⟩ = some (.slice (some ⟨w.heap.size + 1 + 1 + 1, 0, none⟩) 1 1) ∧ DL w' 0 exD (vD w.heap.size) ∧ EL w' 0 exA (vA w.heap.size) ∧ Below w.heap.size w w'))
  generalize hW5 : (((((w.alloc (.cells #[.int .i64 1, .int .i64 2] 3)).alloc (.cells #[.int .i64 0, .int .i64 1, .int .i64 0, .int .i64 1] 79)).alloc (.cells (gd exD (vD w.heap.size)) 25)).alloc (.cells #[.int .i64 0, .int .i64 1, .int .i64 0, .int .i64 1, .int .i64 0, .int .i64 0, .int .i64 0] 76)).alloc (.cells (ge exA (vA w.heap.size)) 28)) = W5 at *
  have HB5 := Lib.hid (show Below w.heap.size w W5 from B5.out)
  clear hW5
  have hbn := box_below w1 (.cells (au false X 1 xc) 45)
  have N2 := Lib.hid (heap_alloc_new w1 (.cells (au false X 1 xc) 45))
  have hb2 := hb1.trans (hbn.mono hb1.size)
  have B2 := Lib.hid hb2
  have R2 := Lib.hid (hr1.below hbn)
  obtain ⟨k0, k1, k2, k3, hdl, hel, hbw⟩ := HKB.out _ hb2
  have hwhy := whyr_any exD (vD w.heap.size) exA (vA w.heap.size) 0 0 0 _ hdl exD_ok hel exA_ok (by decide)
  have HWY := Lib.hid (show Calls Tryz.prog 17 #[.agg (gd exD (vD w.heap.size)), .agg (ge exA (vA w.heap.size)), .int .i64 0, .int .i64 0, .int .i64 0] (w1.alloc (.cells (au false X 1 xc) 45)) fun e w' => ∃ (L : List Nat) (A : Option Addr) (c : Nat), e = .returned (.tuple #[.agg (rc 0 0 (-1) 0 A L.length c), .bool true]) ∧ L.length ≤ c ∧ Chain (dm exD 0) exD.k.length 0 1 L ∧ Row w' 0 1 A L.length (iv L) ∧ Below (w1.alloc (.cells (au false X 1 xc) 45)).heap.size (w1.alloc (.cells (au false X 1 xc) 45)) w' from hwhy.mono fun e w' h => by
    rcases h with ⟨h1, -⟩ | ⟨-, lk, gk, L, A, c, h1, h2, h3, h4, h5⟩
    · exact absurd (ex_may0.symm.trans h1) (by decide)
    · obtain ⟨q1, q2, q3⟩ := ex_rdg h3
      subst q1 q2
      exact ⟨L, A, c, h1, h2, q3, h4.base (Nat.zero_le _), h5⟩)
  clear hwhy hdl hel hbw hb1 hbn hb2 hr1
  go_wp2_with (first
    | (with_reducible (show wpList _ _ _ (⟨none, .store 45 (.tmp 3) (.tmp 18), _, _, _, _⟩ :: _) _ _); refine wpList_store_row (o := ⟨none, .store 45 (.tmp 3) (.tmp 18), _, _, _, _⟩) rfl 45 (.tmp 3) (.tmp 18) rfl w1.heap.size (au false X 1 xc) rfl rfl 45 #[.bool false, .slice none 0 0] (heap_alloc_new _ _) (info47 _ _ _ _) rfl (au_one _ _ _ _) ?_; rw [new_set]))
  rw [HFD.out, HFE.out]
  clear k0 k1 k2 k3
  refine HWY.out.mono ?_
  rintro e w3 ⟨L, A, c, rfl, hLc, hch, hrow, hb3⟩
  have HCH := Lib.hid hch
  have hbn := box_below w3 (.cells (rc 0 0 (-1) 0 A L.length c) 30)
  have N4 := Lib.hid (heap_alloc_new w3 (.cells (rc 0 0 (-1) 0 A L.length c) 30))
  have N2b := Lib.hid (((hb3.trans (hbn.mono hb3.size)).block _ (row_lt N2.out)).trans N2.out)
  have B4 := Lib.hid (B2.out.trans ((hb3.trans (hbn.mono hb3.size)).mono B2.out.size))
  have R4 := Lib.hid (R2.out.below (hb3.trans (hbn.mono hb3.size)))
  have RL := Lib.hid (hrow.below hbn)
  have HRR := Lib.hid (fun w' hb => rread_any exD (vD w.heap.size) exA (vA w.heap.size) 0 0 0 1 0 c A L w' (HKB.out w' hb).2.2.2.2.1 exD_ok (HKB.out w' hb).2.2.2.2.2.1 exA_ok (by decide) (by decide) exA_gr)
  have HMY := Lib.hid (fun w' hb => may_any exD (vD w.heap.size) exA (vA w.heap.size) 1 0 0 w' (HKB.out w' hb).2.2.2.2.1 exD_ok (HKB.out w' hb).2.2.2.2.2.1 exA_ok (by decide))
  obtain ⟨ln, hln⟩ : ∃ ln, L.length = ln := ⟨_, rfl⟩
  have HLN := Lib.hid hln
  have HLC := Lib.hid hLc
  rw [hln] at N4 hbn RL B4 N2b R4 ⊢
  clear hrow hb3 hch hln hLc HWY
  obtain ⟨p0, p1⟩ := auCells N2b.out
  obtain ⟨k0, k1, k2, k3, -, -, -⟩ := HKB.out _ B4.out
  obtain ⟨r0, r1, r2, r3, r4⟩ := rcCells N4.out
  go_wp2_with (first
    | (with_reducible (show wpList _ _ _ (⟨none, .store 30 (.tmp 5) (.tmp 24), _, _, _, _⟩ :: _) _ _); refine wpList_store_row (o := ⟨none, .store 30 (.tmp 5) (.tmp 24), _, _, _, _⟩) rfl 30 (.tmp 5) (.tmp 24) rfl w3.heap.size (rc 0 0 (-1) 0 A ln c) rfl rfl 30 #[.int .i64 0, .int .i64 0, .int .i64 0, .int .i64 0, .slice none 0 0] (heap_alloc_new _ _) (info37 _ _ _ _ _ _ _) rfl (rc_one _ _ _ _ _ _ _) ?_; rw [new_set]))
  have hbl := box_below (w3.alloc (.cells (rc 0 0 (-1) 0 A ln c) 30)) (.cells #[.int .i64 0] 3)
  have R5 := R4.out.below hbl
  have RB := lits_row (w3.alloc (.cells (rc 0 0 (-1) 0 A ln c) 30)) (w3.heap.size + 1) (by simp) [0] #[.int .i64 0] rfl 3
  have hsm := ints_same X (some ⟨w3.heap.size + 1, 0, none⟩) 1 xc 1 [0] _ R5 (RB.base (Nat.zero_le _)) (by omega)
  refine hsm.mono ?_
  rintro e w6 ⟨rfl, hb6⟩
  have hb46 := hbl.trans (hb6.mono hbl.size)
  have B6 := Lib.hid (B4.out.trans (hb46.mono B4.out.size))
  have N6 := Lib.hid ((hb46.block _ (row_lt N4.out)).trans N4.out)
  have RL6 := Lib.hid (RL.out.below hb46)
  clear hsm RB R5 hbl hb6 hb46 p0 p1 k0 k1 k2 k3 r0 r1 r2 r3 r4
  obtain ⟨k0, k1, k2, k3, -, -, -⟩ := HKB.out _ B6.out
  obtain ⟨r0, r1, r2, r3, r4⟩ := rcCells N6.out
  have HPR := Lib.hid (show Calls Tryz.prog 20 #[.agg (gd exD (vD w.heap.size)), .agg (ge exA (vA w.heap.size)), .int .i64 0, .agg #[.int .i64 0, .int .i64 0, .int .i64 (-1), .int .i64 0, .slice A ln c]] w6 fun e w' => e = .returned (.bool true) ∧ Below w6.heap.size w6 w' from by
    have h := HRR.out w6 B6.out (by rw [HLN.out]; exact RL6.out) HCH.out HLC.out
    rw [HLN.out] at h
    exact h)
  go_wp2_with (first
    | (go_at_call 20; rw [HFD.out, HFE.out]; refine HPR.out.mono ?_; rintro e w7 ⟨rfl, hb7⟩; have B7 := Lib.hid (B6.out.trans (hb7.mono B6.out.size)); clear hb7 k0 k1 k2 k3 r0 r1 r2 r3 r4; obtain ⟨k0, k1, k2, k3, -, -, -⟩ := HKB.out _ B7.out)
    | (go_at_call 18; rw [HFD.out, HFE.out]; have hmy := HMY.out _ B7.out; rw [ex_may1] at hmy; refine hmy.mono ?_; rintro e w8 ⟨rfl, hb8⟩; have B8 := Lib.hid (HB5.out.trans ((B7.out.trans (hb8.mono B7.out.size)).mono HB5.out.size)); clear hb8 hmy))
  go_ret
  exact ⟨by first | rfl | simp, B8.out⟩

end Go.Proofs.YtgknfkmojhganaaGreat.Di

namespace Go.Proofs.YtgknfkmojhganaaGreat.Di
open Go.RowKit
open Go.Proofs.YtgknfkmojhganaaGreat.Tp
set_option linter.unusedVariables false
set_option linter.unusedSimpArgs false

/-- While events are gathered: L lie in the directory in box C. -/
def DRel (B C : Nat) (d : Dy) (v : Vd) (L : List Mb) (W : World) : Prop := ∃ (A' : Option Addr) (c' : Nat), W.heap[C]? = some (.cells (gd ⟨d.k, L⟩ ⟨v.A1, v.c1, A', c'⟩) 25 (0, 0)) ∧ W.ownsRow B 79 4 (.slice A' L.length c') L.length (ev L)
theorem drel_below {B C : Nat} {d : Dy} {v : Vd} {L : List Mb} {W W' : World} (h : DRel B C d v L W) (hb : Below W.heap.size W W') : DRel B C d v L W' := by
  obtain ⟨A', c', h1, h2⟩ := h
  exact ⟨A', c', (hb.block _ (row_lt h1)).trans h1, own_below h2 hb⟩
theorem drel_q {B C : Nat} {d : Dy} {v : Vd} {L : List Mb} {A' : Option Addr} {c' : Nat} {W w12 : World} {o : Obj} (hq : W.heap[C]? = some (.cells (gd ⟨d.k, L⟩ ⟨v.A1, v.c1, A', c'⟩) 25 (0, 0))) (ho : W.ownsRow B 79 4 (.slice A' L.length c') L.length (ev L)) (hgr : (W.alloc o).grownBy w12 (Value.slice A' L.length c').ownBlock) : w12.heap[C]? = some (.cells (gd ⟨d.k, L⟩ ⟨v.A1, v.c1, A', c'⟩) 25 (0, 0)) := by
  have h1 := (heap_alloc_old W o (row_lt hq)).trans hq
  exact (hgr.block C (by have := row_lt hq; simp; omega) (fun e => own_not (own_below ho (box_below W o)) h1 (by decide) e.symm)).trans h1
theorem drel_add {B C : Nat} {d : Dy} {v : Vd} {L : List Mb} {x : Mb} {A' A2 : Option Addr} {c' c2 : Nat} {W w12 : World} {o : Obj} (hq : W.heap[C]? = some (.cells (gd ⟨d.k, L⟩ ⟨v.A1, v.c1, A', c'⟩) 25 (0, 0))) (ho : W.ownsRow B 79 4 (.slice A' L.length c') L.length (ev L)) (hgr : (W.alloc o).grownBy w12 (Value.slice A' L.length c').ownBlock)
    (ho2 : w12.ownsRow B 79 4 (.slice A2 (L.length + 1) c2) (L.length + 1) (ev L ++ [.int .i64 (x.t : Int), .int .i64 (x.k : Int), .int .i64 (x.p : Int), .int .i64 (x.g : Int)])) : DRel B C d v (L ++ [x]) (w12.setCell ⟨C, 1, none⟩ (.slice A2 (L.length + 1) c2)) ∧ w12.setCell ⟨C, 1, none⟩ (.slice A2 (L.length + 1) c2) = w12.setRow C (gd ⟨d.k, L ++ [x]⟩ ⟨v.A1, v.c1, A2, c2⟩) := by
  have hlen : (L ++ [x]).length = L.length + 1 := by simp
  have hq2 := drel_q hq ho hgr
  have e : w12.setCell ⟨C, 1, none⟩ (.slice A2 (L.length + 1) c2) = w12.setRow C (gd ⟨d.k, L ++ [x]⟩ ⟨v.A1, v.c1, A2, c2⟩) := by
    rw [setCell_eq_setRow w12 C 1 _ _ _ _ hq2]
    unfold gd
    rw [hlen]
    rfl
  refine ⟨?_, e⟩
  rw [e]
  refine ⟨A2, c2, setRow_heap _ _ _ _ _ _ hq2, ?_⟩
  rw [hlen, ev_snoc]
  exact kept_ne ho2 (gb_setRow _ _ _) (fun g e => by cases e; exact own_not ho2 hq2 (by decide))
theorem take_snocD (d : Dy) {k : Nat} (h : k < d.e.length) : d.e.take (k + 1) = d.e.take k ++ [eg d k] := by
  rw [List.take_succ_eq_append_getElem h]
  unfold eg
  rw [List.getD_eq_getElem?_getD, List.getElem?_eq_getElem h]
  rfl
theorem zinfo62 : (Tryz.prog.info? 79).map (fun i => (i.zero, i.size, i.bytes)) = some (some (.agg #[.int .i64 0, .int .i64 0, .int .i64 0, .int .i64 0]), 4, 32) := by kernel_rfl
set_option maxRecDepth 100000 in
set_option maxHeartbeats 1000000 in
/-- Equal audiences. -/
theorem same_any (b : Bool) (X Y : Option Addr) (n xc yc : Nat) (l : List Nat) (w : World) (h1 : Row w 0 1 X n (iv l)) (h2 : Row w 0 1 Y n (iv l)) (hn : n ≤ 1000) :
    Calls Tryz.prog 19 #[.agg (au b X n xc), .agg (au b Y n yc)] w fun e w' => e = .returned (.bool true) ∧ Below w.heap.size w w' := by
  have hbx := (box_below w (.cells (au b X n xc) 45)).trans ((box_below (w.alloc (.cells (au b X n xc) 45)) (.cells (au b Y n yc) 45)).mono (by simp))
  have HBX := Lib.hid hbx
  have D1 := heap_alloc2_old w (.cells (au b X n xc) 45) (.cells (au b Y n yc) 45)
  have E1 := heap_alloc2_new w (.cells (au b X n xc) 45) (.cells (au b Y n yc) 45)
  obtain ⟨g0, g1⟩ := auCells D1
  obtain ⟨c0, c1⟩ := auCells E1
  have HS := Lib.hid (ints_same X Y n xc yc l _ (h1.below hbx) (h2.below hbx) hn)
  have e1 : (b == b) = true := by simp
  clear h1 h2 hbx D1 E1
  go_enter Tryz.func19, Tryz.ntmps19
  go_wp2_with (go_at_call 38; refine HS.out.mono ?_; rintro e w1 ⟨rfl, hb1⟩; have B1 := Lib.hid (HBX.out.trans (hb1.mono HBX.out.size)); clear hb1 g0 g1 c0 c1)
  go_ret
  exact ⟨by first | rfl | simp, B1.out⟩

end Go.Proofs.YtgknfkmojhganaaGreat.Di
