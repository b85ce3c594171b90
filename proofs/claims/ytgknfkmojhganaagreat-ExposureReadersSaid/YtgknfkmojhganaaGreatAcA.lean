import Derived.Test.YtgknfkmojhganaaGreatAcMem
import Derived.Laws.StructEq
namespace Go.Proofs.YtgknfkmojhganaaGreat.Di
open Go.RowKit
open Go.Proofs.YtgknfkmojhganaaGreat.Tp
set_option linter.unusedVariables false

def acB (x y : Ac) : Bool := x.t == y.t && (x.k == y.k && (x.p == y.p && (x.r == y.r && (x.u == y.u && (x.c == y.c && x.f == y.f)))))
theorem acB_iff (x y : Ac) : acB x y = true ↔ x.t = y.t ∧ x.k = y.k ∧ x.p = y.p ∧ x.r = y.r ∧ x.u = y.u ∧ x.c = y.c ∧ x.f = y.f := by
  unfold acB
  simp only [Bool.and_eq_true, beq_iff_eq]
theorem ac_eql (x y : Ac) (W : World) : (binOp .eql 76 (.agg (acc x)) (.agg (acc y))).run Tryz.prog W = .ok (.bool (acB x y)) W := by
  unfold acc acB
  simp [go_sem]
  by_cases h1 : x.t = y.t
  · by_cases h2 : x.k = y.k
    · by_cases h3 : x.p = y.p
      · by_cases h4 : x.r = y.r
        · by_cases h5 : x.u = y.u
          · by_cases h6 : x.c = y.c
            · by_cases h7 : x.f = y.f
              · simp [h1, h2, h3, h4, h5, h6, h7]
              · simp [h1, h2, h3, h4, h5, h6, h7]
            · simp [h1, h2, h3, h4, h5, h6]
          · simp [h1, h2, h3, h4, h5]
        · simp [h1, h2, h3, h4]
      · simp [h1, h2, h3]
    · simp [h1, h2]
  · simp [h1]
theorem num_any (n s : Int) (w : World) : Calls Tryz.prog 85 #[.int .i64 n, .int .i64 s] w fun e w' => e = .returned (.bool (decide (0 ≤ n) && decide (n < s))) ∧ w = w' := by
  by_cases h1 : (0 : Int) ≤ n
  · have d1 : decide ((0 : Int) ≤ n) = true := decide_eq_true h1
    rw [d1, Bool.true_and]
    go_enter Tryz.func85, Tryz.ntmps85
    go_wp2_with fail
    go_ret
    exact ⟨rfl, rfl⟩
  · have d1 : decide ((0 : Int) ≤ n) = false := decide_eq_false h1
    go_enter Tryz.func85, Tryz.ntmps85
    go_wp2_with fail
    go_ret
    exact ⟨by first | rfl | simp, rfl⟩
theorem below3 (w : World) (X Y Z : Obj) : Below w.heap.size w (((w.alloc X).alloc Y).alloc Z) := (boxes3 w X Y Z).2.2.2.2

set_option maxRecDepth 100000 in
set_option maxHeartbeats 1000000 in
theorem fits1 (a : Es) (v : Ve) (t p r u c f : Int) (w : World) :
    Calls Tryz.prog 86 #[.agg (ge a v), .agg (acc ⟨t, 1, p, r, u, c, f⟩)] w fun e w' => e = .returned (.bool (fitB a.n ⟨t, 1, p, r, u, c, f⟩)) ∧ Below w.heap.size w w' := by
  have HB1 := Lib.hid (below3 w)
  have he := fun W => ac_eql ⟨t, 1, p, r, u, c, f⟩ ⟨t, 1, p, r, 0, 0, 0⟩ W
  have hi := acB_iff ⟨t, 1, p, r, u, c, f⟩ ⟨t, 1, p, r, 0, 0, 0⟩
  simp only [acc] at he
  generalize acB ⟨t, 1, p, r, u, c, f⟩ ⟨t, 1, p, r, 0, 0, 0⟩ = bq at *
  by_cases hc : 0 ≤ r ∧ r < 24
  · have hv : fitB a.n ⟨t, 1, p, r, u, c, f⟩ = bq := by
      cases hb : bq with
      | true => rw [hb] at hi; have := hi.1 rfl; simp at this; exact fitB_yes (by simp [fitP]; omega)
      | false => rw [hb] at hi; exact fitB_no (fun h => by simp [fitP] at h; have := hi.2 (by simp; omega); cases this)
    have HV := Lib.hid hv
    clear hv hi
    unfold acc ge
    have hn := fun w => num_any r 24 w
    rw [decide_eq_true hc.1, decide_eq_true hc.2] at hn
    have HN := Lib.hid hn
    clear hn hc
    go_enter Tryz.func86, Tryz.ntmps86
    go_wp2_with (first | (go_at_call 85; (with_reducible refine (HN.out _).mono ?_); rintro e w1 ⟨rfl, rfl⟩))
    go_ret
    exact ⟨by rw [HV.out]; first | rfl | simp, HB1.out _ _ _⟩
  · have hv : fitB a.n ⟨t, 1, p, r, u, c, f⟩ = false := fitB_no (fun h => by simp [fitP] at h; omega)
    have HV := Lib.hid hv
    clear hv hi he
    unfold acc ge
    have hn := fun w => num_any r 24 w
    have hf : (decide ((0 : Int) ≤ r) && decide (r < 24)) = false := by rw [Bool.eq_false_iff]; simp only [ne_eq, Bool.and_eq_true, decide_eq_true_eq]; exact hc
    rw [hf] at hn
    have HN := Lib.hid hn
    clear hn hc hf
    go_enter Tryz.func86, Tryz.ntmps86
    go_wp2_with (first | (go_at_call 85; (with_reducible refine (HN.out _).mono ?_); rintro e w1 ⟨rfl, rfl⟩))
    go_ret
    exact ⟨by rw [HV.out]; first | rfl | simp, HB1.out _ _ _⟩
set_option maxRecDepth 100000 in
set_option maxHeartbeats 1000000 in
theorem fits2 (a : Es) (v : Ve) (t p r u c f : Int) (w : World) :
    Calls Tryz.prog 86 #[.agg (ge a v), .agg (acc ⟨t, 2, p, r, u, c, f⟩)] w fun e w' => e = .returned (.bool (fitB a.n ⟨t, 2, p, r, u, c, f⟩)) ∧ Below w.heap.size w w' := by
  have HB1 := Lib.hid (below3 w)
  have he := fun W => ac_eql ⟨t, 2, p, r, u, c, f⟩ ⟨t, 2, p, r, 0, 0, 0⟩ W
  have hi := acB_iff ⟨t, 2, p, r, u, c, f⟩ ⟨t, 2, p, r, 0, 0, 0⟩
  simp only [acc] at he
  generalize acB ⟨t, 2, p, r, u, c, f⟩ ⟨t, 2, p, r, 0, 0, 0⟩ = bq at *
  by_cases hc : 0 ≤ r ∧ r < 24
  · have hv : fitB a.n ⟨t, 2, p, r, u, c, f⟩ = bq := by
      cases hb : bq with
      | true => rw [hb] at hi; have := hi.1 rfl; simp at this; exact fitB_yes (by simp [fitP]; omega)
      | false => rw [hb] at hi; exact fitB_no (fun h => by simp [fitP] at h; have := hi.2 (by simp; omega); cases this)
    have HV := Lib.hid hv
    clear hv hi
    unfold acc ge
    have hn := fun w => num_any r 24 w
    rw [decide_eq_true hc.1, decide_eq_true hc.2] at hn
    have HN := Lib.hid hn
    clear hn hc
    go_enter Tryz.func86, Tryz.ntmps86
    go_wp2_with (first | (go_at_call 85; (with_reducible refine (HN.out _).mono ?_); rintro e w1 ⟨rfl, rfl⟩))
    go_ret
    exact ⟨by rw [HV.out]; first | rfl | simp, HB1.out _ _ _⟩
  · have hv : fitB a.n ⟨t, 2, p, r, u, c, f⟩ = false := fitB_no (fun h => by simp [fitP] at h; omega)
    have HV := Lib.hid hv
    clear hv hi he
    unfold acc ge
    have hn := fun w => num_any r 24 w
    have hf : (decide ((0 : Int) ≤ r) && decide (r < 24)) = false := by rw [Bool.eq_false_iff]; simp only [ne_eq, Bool.and_eq_true, decide_eq_true_eq]; exact hc
    rw [hf] at hn
    have HN := Lib.hid hn
    clear hn hc hf
    go_enter Tryz.func86, Tryz.ntmps86
    go_wp2_with (first | (go_at_call 85; (with_reducible refine (HN.out _).mono ?_); rintro e w1 ⟨rfl, rfl⟩))
    go_ret
    exact ⟨by rw [HV.out]; first | rfl | simp, HB1.out _ _ _⟩
set_option maxRecDepth 100000 in
set_option maxHeartbeats 1000000 in
theorem fits3 (a : Es) (v : Ve) (t p r u c f : Int) (w : World) :
    Calls Tryz.prog 86 #[.agg (ge a v), .agg (acc ⟨t, 3, p, r, u, c, f⟩)] w fun e w' => e = .returned (.bool (fitB a.n ⟨t, 3, p, r, u, c, f⟩)) ∧ Below w.heap.size w w' := by
  have HB1 := Lib.hid (below3 w)
  have he := fun W => ac_eql ⟨t, 3, p, r, u, c, f⟩ ⟨t, 3, p, 0, u, 0, 0⟩ W
  have hi := acB_iff ⟨t, 3, p, r, u, c, f⟩ ⟨t, 3, p, 0, u, 0, 0⟩
  simp only [acc] at he
  generalize acB ⟨t, 3, p, r, u, c, f⟩ ⟨t, 3, p, 0, u, 0, 0⟩ = bq at *
  by_cases hc : t < u ∧ u ≤ 1099511627776
  · have hv : fitB a.n ⟨t, 3, p, r, u, c, f⟩ = bq := by
      cases hb : bq with
      | true => rw [hb] at hi; have := hi.1 rfl; simp at this; exact fitB_yes (by simp [fitP]; omega)
      | false => rw [hb] at hi; exact fitB_no (fun h => by simp [fitP] at h; have := hi.2 (by simp; omega); cases this)
    have HV := Lib.hid hv
    clear hv hi
    unfold acc ge
    have d1 : decide (t < u) = true := decide_eq_true hc.1
    have d2 : decide (u ≤ (1099511627776 : Int)) = true := decide_eq_true hc.2
    have HN : Hid True := Lib.hid trivial
    clear hc
    go_enter Tryz.func86, Tryz.ntmps86
    go_wp2_with fail
    go_ret
    exact ⟨by rw [HV.out]; first | rfl | simp, HB1.out _ _ _⟩
  · have hv : fitB a.n ⟨t, 3, p, r, u, c, f⟩ = false := fitB_no (fun h => by simp [fitP] at h; omega)
    have HV := Lib.hid hv
    clear hv hi he
    unfold acc ge
    by_cases h1 : t < u
    · have d1 : decide (t < u) = true := decide_eq_true h1
      have d2 : decide (u ≤ (1099511627776 : Int)) = false := decide_eq_false (by omega)
      clear hc h1
      go_enter Tryz.func86, Tryz.ntmps86
      go_wp2_with fail
      go_ret
      exact ⟨by rw [HV.out]; first | rfl | simp, HB1.out _ _ _⟩
    · have d1 : decide (t < u) = false := decide_eq_false h1
      clear hc h1
      go_enter Tryz.func86, Tryz.ntmps86
      go_wp2_with fail
      go_ret
      exact ⟨by rw [HV.out]; first | rfl | simp, HB1.out _ _ _⟩
set_option maxRecDepth 100000 in
set_option maxHeartbeats 1000000 in
theorem fits4 (a : Es) (v : Ve) (t p r u c f : Int) (w : World) :
    Calls Tryz.prog 86 #[.agg (ge a v), .agg (acc ⟨t, 4, p, r, u, c, f⟩)] w fun e w' => e = .returned (.bool (fitB a.n ⟨t, 4, p, r, u, c, f⟩)) ∧ Below w.heap.size w w' := by
  have HB1 := Lib.hid (below3 w)
  have he := fun W => ac_eql ⟨t, 4, p, r, u, c, f⟩ ⟨t, 4, p, 0, 0, 0, 0⟩ W
  have hi := acB_iff ⟨t, 4, p, r, u, c, f⟩ ⟨t, 4, p, 0, 0, 0, 0⟩
  simp only [acc] at he
  generalize acB ⟨t, 4, p, r, u, c, f⟩ ⟨t, 4, p, 0, 0, 0, 0⟩ = bq at *
  have hv : fitB a.n ⟨t, 4, p, r, u, c, f⟩ = bq := by
    cases hb : bq with
    | true => rw [hb] at hi; have := hi.1 rfl; simp at this; exact fitB_yes (by simp [fitP]; omega)
    | false => rw [hb] at hi; exact fitB_no (fun h => by simp [fitP] at h; have := hi.2 (by simp; omega); cases this)
  have HV := Lib.hid hv
  clear hv hi
  unfold acc ge
  go_enter Tryz.func86, Tryz.ntmps86
  go_wp2_with fail
  go_ret
  exact ⟨by rw [HV.out]; first | rfl | simp, HB1.out _ _ _⟩
set_option maxRecDepth 100000 in
set_option maxHeartbeats 1000000 in
theorem fits5 (a : Es) (v : Ve) (t p r u c f : Int) (w : World) :
    Calls Tryz.prog 86 #[.agg (ge a v), .agg (acc ⟨t, 5, p, r, u, c, f⟩)] w fun e w' => e = .returned (.bool (fitB a.n ⟨t, 5, p, r, u, c, f⟩)) ∧ Below w.heap.size w w' := by
  have HB1 := Lib.hid (below3 w)
  have he := fun W => ac_eql ⟨t, 5, p, r, u, c, f⟩ ⟨t, 5, p, 0, 0, c, 0⟩ W
  have hi := acB_iff ⟨t, 5, p, r, u, c, f⟩ ⟨t, 5, p, 0, 0, c, 0⟩
  simp only [acc] at he
  generalize acB ⟨t, 5, p, r, u, c, f⟩ ⟨t, 5, p, 0, 0, c, 0⟩ = bq at *
  by_cases hc : 0 ≤ c ∧ c < 64
  · have hv : fitB a.n ⟨t, 5, p, r, u, c, f⟩ = bq := by
      cases hb : bq with
      | true => rw [hb] at hi; have := hi.1 rfl; simp at this; exact fitB_yes (by simp [fitP]; omega)
      | false => rw [hb] at hi; exact fitB_no (fun h => by simp [fitP] at h; have := hi.2 (by simp; omega); cases this)
    have HV := Lib.hid hv
    clear hv hi
    unfold acc ge
    have hn := fun w => num_any c 64 w
    rw [decide_eq_true hc.1, decide_eq_true hc.2] at hn
    have HN := Lib.hid hn
    clear hn hc
    go_enter Tryz.func86, Tryz.ntmps86
    go_wp2_with (first | (go_at_call 85; (with_reducible refine (HN.out _).mono ?_); rintro e w1 ⟨rfl, rfl⟩))
    go_ret
    exact ⟨by rw [HV.out]; first | rfl | simp, HB1.out _ _ _⟩
  · have hv : fitB a.n ⟨t, 5, p, r, u, c, f⟩ = false := fitB_no (fun h => by simp [fitP] at h; omega)
    have HV := Lib.hid hv
    clear hv hi he
    unfold acc ge
    have hn := fun w => num_any c 64 w
    have hf : (decide ((0 : Int) ≤ c) && decide (c < 64)) = false := by rw [Bool.eq_false_iff]; simp only [ne_eq, Bool.and_eq_true, decide_eq_true_eq]; exact hc
    rw [hf] at hn
    have HN := Lib.hid hn
    clear hn hc hf
    go_enter Tryz.func86, Tryz.ntmps86
    go_wp2_with (first | (go_at_call 85; (with_reducible refine (HN.out _).mono ?_); rintro e w1 ⟨rfl, rfl⟩))
    go_ret
    exact ⟨by rw [HV.out]; first | rfl | simp, HB1.out _ _ _⟩
set_option maxRecDepth 100000 in
set_option maxHeartbeats 1000000 in
theorem fits6 (a : Es) (v : Ve) (t p r u c f : Int) (w : World) :
    Calls Tryz.prog 86 #[.agg (ge a v), .agg (acc ⟨t, 6, p, r, u, c, f⟩)] w fun e w' => e = .returned (.bool (fitB a.n ⟨t, 6, p, r, u, c, f⟩)) ∧ Below w.heap.size w w' := by
  have HB1 := Lib.hid (below3 w)
  have he := fun W => ac_eql ⟨t, 6, p, r, u, c, f⟩ ⟨t, 6, p, 0, 0, c, 0⟩ W
  have hi := acB_iff ⟨t, 6, p, r, u, c, f⟩ ⟨t, 6, p, 0, 0, c, 0⟩
  simp only [acc] at he
  generalize acB ⟨t, 6, p, r, u, c, f⟩ ⟨t, 6, p, 0, 0, c, 0⟩ = bq at *
  by_cases hc : 0 ≤ c ∧ c < 64
  · have hv : fitB a.n ⟨t, 6, p, r, u, c, f⟩ = bq := by
      cases hb : bq with
      | true => rw [hb] at hi; have := hi.1 rfl; simp at this; exact fitB_yes (by simp [fitP]; omega)
      | false => rw [hb] at hi; exact fitB_no (fun h => by simp [fitP] at h; have := hi.2 (by simp; omega); cases this)
    have HV := Lib.hid hv
    clear hv hi
    unfold acc ge
    have hn := fun w => num_any c 64 w
    rw [decide_eq_true hc.1, decide_eq_true hc.2] at hn
    have HN := Lib.hid hn
    clear hn hc
    go_enter Tryz.func86, Tryz.ntmps86
    go_wp2_with (first | (go_at_call 85; (with_reducible refine (HN.out _).mono ?_); rintro e w1 ⟨rfl, rfl⟩))
    go_ret
    exact ⟨by rw [HV.out]; first | rfl | simp, HB1.out _ _ _⟩
  · have hv : fitB a.n ⟨t, 6, p, r, u, c, f⟩ = false := fitB_no (fun h => by simp [fitP] at h; omega)
    have HV := Lib.hid hv
    clear hv hi he
    unfold acc ge
    have hn := fun w => num_any c 64 w
    have hf : (decide ((0 : Int) ≤ c) && decide (c < 64)) = false := by rw [Bool.eq_false_iff]; simp only [ne_eq, Bool.and_eq_true, decide_eq_true_eq]; exact hc
    rw [hf] at hn
    have HN := Lib.hid hn
    clear hn hc hf
    go_enter Tryz.func86, Tryz.ntmps86
    go_wp2_with (first | (go_at_call 85; (with_reducible refine (HN.out _).mono ?_); rintro e w1 ⟨rfl, rfl⟩))
    go_ret
    exact ⟨by rw [HV.out]; first | rfl | simp, HB1.out _ _ _⟩
set_option maxRecDepth 100000 in
set_option maxHeartbeats 1000000 in
theorem fits7 (a : Es) (v : Ve) (t p r u c f : Int) (w : World) :
    Calls Tryz.prog 86 #[.agg (ge a v), .agg (acc ⟨t, 7, p, r, u, c, f⟩)] w fun e w' => e = .returned (.bool (fitB a.n ⟨t, 7, p, r, u, c, f⟩)) ∧ Below w.heap.size w w' := by
  have HB1 := Lib.hid (below3 w)
  have he := fun W => ac_eql ⟨t, 7, p, r, u, c, f⟩ ⟨t, 7, p, 0, 0, 0, f⟩ W
  have hi := acB_iff ⟨t, 7, p, r, u, c, f⟩ ⟨t, 7, p, 0, 0, 0, f⟩
  simp only [acc] at he
  generalize acB ⟨t, 7, p, r, u, c, f⟩ ⟨t, 7, p, 0, 0, 0, f⟩ = bq at *
  by_cases hc : 0 ≤ f ∧ f < a.n ∧ f ≠ p
  · have hv : fitB a.n ⟨t, 7, p, r, u, c, f⟩ = bq := by
      cases hb : bq with
      | true => rw [hb] at hi; have := hi.1 rfl; simp at this; exact fitB_yes (by simp [fitP]; omega)
      | false => rw [hb] at hi; exact fitB_no (fun h => by simp [fitP] at h; have := hi.2 (by simp; omega); cases this)
    have HV := Lib.hid hv
    clear hv hi
    unfold acc ge
    have hn := fun w => num_any f a.n w
    rw [decide_eq_true hc.1, decide_eq_true hc.2.1] at hn
    have HN := Lib.hid hn
    have e1 : (f != p) = true := by rw [bne, beq_eq_false_iff_ne.2 hc.2.2]; rfl
    clear hn hc
    go_enter Tryz.func86, Tryz.ntmps86
    go_wp2_with (first | (go_at_call 85; (with_reducible refine (HN.out _).mono ?_); rintro e w1 ⟨rfl, rfl⟩))
    go_ret
    exact ⟨by rw [HV.out]; first | rfl | simp, HB1.out _ _ _⟩
  · have hv : fitB a.n ⟨t, 7, p, r, u, c, f⟩ = false := fitB_no (fun h => by simp [fitP] at h; omega)
    have HV := Lib.hid hv
    clear hv hi he
    unfold acc ge
    have hn := fun w => num_any f a.n w
    by_cases h1 : 0 ≤ f ∧ f < a.n
    · rw [decide_eq_true h1.1, decide_eq_true h1.2] at hn
      have HN := Lib.hid hn
      have e1 : (f != p) = false := by rw [bne, beq_iff_eq.2 (show f = p by omega)]; rfl
      clear hn hc h1
      go_enter Tryz.func86, Tryz.ntmps86
      go_wp2_with (first | (go_at_call 85; (with_reducible refine (HN.out _).mono ?_); rintro e w1 ⟨rfl, rfl⟩))
      go_ret
      exact ⟨by rw [HV.out]; first | rfl | simp, HB1.out _ _ _⟩
    · have hf : (decide ((0 : Int) ≤ f) && decide (f < a.n)) = false := by rw [Bool.eq_false_iff]; simp only [ne_eq, Bool.and_eq_true, decide_eq_true_eq]; exact h1
      rw [hf] at hn
      have HN := Lib.hid hn
      clear hn hc h1 hf
      go_enter Tryz.func86, Tryz.ntmps86
      go_wp2_with (first | (go_at_call 85; (with_reducible refine (HN.out _).mono ?_); rintro e w1 ⟨rfl, rfl⟩))
      go_ret
      exact ⟨by rw [HV.out]; first | rfl | simp, HB1.out _ _ _⟩
set_option maxRecDepth 100000 in
set_option maxHeartbeats 1000000 in
theorem fits_any (a : Es) (v : Ve) (x : Ac) (w : World) :
    Calls Tryz.prog 86 #[.agg (ge a v), .agg (acc x)] w fun e w' => e = .returned (.bool (fitB a.n x)) ∧ Below w.heap.size w w' := by
  obtain ⟨t, k, p, r, u, c, f⟩ := x
  by_cases h1 : k = 1
  · subst h1; exact fits1 a v t p r u c f w
  by_cases h2 : k = 2
  · subst h2; exact fits2 a v t p r u c f w
  by_cases h3 : k = 3
  · subst h3; exact fits3 a v t p r u c f w
  by_cases h4 : k = 4
  · subst h4; exact fits4 a v t p r u c f w
  by_cases h5 : k = 5
  · subst h5; exact fits5 a v t p r u c f w
  by_cases h6 : k = 6
  · subst h6; exact fits6 a v t p r u c f w
  by_cases h7 : k = 7
  · subst h7; exact fits7 a v t p r u c f w
  have HB1 := Lib.hid (below3 w)
  have hv : fitB a.n ⟨t, k, p, r, u, c, f⟩ = false := fitB_no (fun h => by simp [fitP] at h; omega)
  have HV := Lib.hid hv
  have e1 : (k == 1) = false := beq_eq_false_iff_ne.2 h1
  have e2 : (k == 2) = false := beq_eq_false_iff_ne.2 h2
  have e3 : (k == 3) = false := beq_eq_false_iff_ne.2 h3
  have e4 : (k == 4) = false := beq_eq_false_iff_ne.2 h4
  have e5 : (k == 5) = false := beq_eq_false_iff_ne.2 h5
  have e6 : (k == 6) = false := beq_eq_false_iff_ne.2 h6
  have e7 : (k == 7) = false := beq_eq_false_iff_ne.2 h7
  clear hv
  unfold acc ge
  go_enter Tryz.func86, Tryz.ntmps86
  go_wp2_with fail
  go_ret
  exact ⟨by rw [HV.out]; first | rfl | simp, HB1.out _ _ _⟩

end Go.Proofs.YtgknfkmojhganaaGreat.Di
