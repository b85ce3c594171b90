import Derived.Test.YtgknfkmojhganaaGreatAcJ
import Derived.Laws.StructEq
namespace Go.Proofs.YtgknfkmojhganaaGreat.Di
open Go.RowKit
open Go.Proofs.YtgknfkmojhganaaGreat.Tp
set_option linter.unusedVariables false
set_option linter.unusedSimpArgs false

set_option maxRecDepth 100000 in
set_option maxHeartbeats 400000 in
theorem in_yes {x l h : Int} (h1 : l ≤ x) (h2 : x ≤ h) (w : World) : Calls Tryz.prog 80 #[.int .i64 x, .int .i64 l, .int .i64 h] w fun e w' => e = .returned (.bool true) ∧ w' = w := by
  have d1 : decide (l ≤ x) = true := decide_eq_true h1
  have d2 : decide (x ≤ h) = true := decide_eq_true h2
  clear h1 h2
  go_enter Tryz.func80, Tryz.ntmps80
  go_wp2_with fail
  go_ret
  exact ⟨by first | rfl | simp, rfl⟩
-- GEN
set_option maxRecDepth 100000 in
set_option maxHeartbeats 1000000 in
theorem event1 (a : Es) (v : Ve) (t p r : Int) (w : World) (hn : 1 ≤ a.n ∧ a.n ≤ 16) (ht : 0 ≤ t ∧ t ≤ 1099511627776) (hp : 0 ≤ p ∧ p < a.n) (hc : 0 ≤ r ∧ r < 24) :
    Calls Tryz.prog 89 #[.agg (ge a v), .agg (acc ⟨t, 1, p, r, 0, 0, 0⟩)] w fun e w' => e = .returned (.bool true) ∧ Below w.heap.size w w' := by
  have HB1 := Lib.hid (below3 w)
  have he := fun W => (ac_eql ⟨t, 1, p, r, 0, 0, 0⟩ ⟨t, 1, p, r, 0, 0, 0⟩ W).trans (by rw [(acB_iff ⟨t, 1, p, r, 0, 0, 0⟩ ⟨t, 1, p, r, 0, 0, 0⟩).2 ⟨rfl, rfl, rfl, rfl, rfl, rfl, rfl⟩])
  simp only [acc] at he
  have hw : IntKind.i64.wrap (a.n - 1) = a.n - 1 := IntWalk.i64_in _ (by omega)
  obtain ⟨hc1, hc2⟩ := hc
  obtain ⟨ht1, ht2⟩ := ht
  obtain ⟨hp1, hp2⟩ := hp
  unfold acc ge
  go_enter Tryz.func89, Tryz.ntmps89
  go_wp2_with (first | (go_at_call 80; (with_reducible refine (in_yes (by omega) (by omega) _).mono ?_); rintro e w1 ⟨rfl, rfl⟩))
  go_ret
  exact ⟨by first | rfl | (simp; done) | (simp; exact hne), HB1.out _ _ _⟩
set_option maxRecDepth 100000 in
set_option maxHeartbeats 1000000 in
theorem event2 (a : Es) (v : Ve) (t p r : Int) (w : World) (hn : 1 ≤ a.n ∧ a.n ≤ 16) (ht : 0 ≤ t ∧ t ≤ 1099511627776) (hp : 0 ≤ p ∧ p < a.n) (hc : 0 ≤ r ∧ r < 24) :
    Calls Tryz.prog 89 #[.agg (ge a v), .agg (acc ⟨t, 2, p, r, 0, 0, 0⟩)] w fun e w' => e = .returned (.bool true) ∧ Below w.heap.size w w' := by
  have HB1 := Lib.hid (below3 w)
  have he := fun W => (ac_eql ⟨t, 2, p, r, 0, 0, 0⟩ ⟨t, 2, p, r, 0, 0, 0⟩ W).trans (by rw [(acB_iff ⟨t, 2, p, r, 0, 0, 0⟩ ⟨t, 2, p, r, 0, 0, 0⟩).2 ⟨rfl, rfl, rfl, rfl, rfl, rfl, rfl⟩])
  simp only [acc] at he
  have hw : IntKind.i64.wrap (a.n - 1) = a.n - 1 := IntWalk.i64_in _ (by omega)
  obtain ⟨hc1, hc2⟩ := hc
  obtain ⟨ht1, ht2⟩ := ht
  obtain ⟨hp1, hp2⟩ := hp
  unfold acc ge
  go_enter Tryz.func89, Tryz.ntmps89
  go_wp2_with (first | (go_at_call 80; (with_reducible refine (in_yes (by omega) (by omega) _).mono ?_); rintro e w1 ⟨rfl, rfl⟩))
  go_ret
  exact ⟨by first | rfl | (simp; done) | (simp; exact hne), HB1.out _ _ _⟩
set_option maxRecDepth 100000 in
set_option maxHeartbeats 1000000 in
theorem event3 (a : Es) (v : Ve) (t p u : Int) (w : World) (hn : 1 ≤ a.n ∧ a.n ≤ 16) (ht : 0 ≤ t ∧ t ≤ 1099511627776) (hp : 0 ≤ p ∧ p < a.n) (hc : t < u ∧ u ≤ 1099511627776) :
    Calls Tryz.prog 89 #[.agg (ge a v), .agg (acc ⟨t, 3, p, 0, u, 0, 0⟩)] w fun e w' => e = .returned (.bool true) ∧ Below w.heap.size w w' := by
  have HB1 := Lib.hid (below3 w)
  have he := fun W => (ac_eql ⟨t, 3, p, 0, u, 0, 0⟩ ⟨t, 3, p, 0, u, 0, 0⟩ W).trans (by rw [(acB_iff ⟨t, 3, p, 0, u, 0, 0⟩ ⟨t, 3, p, 0, u, 0, 0⟩).2 ⟨rfl, rfl, rfl, rfl, rfl, rfl, rfl⟩])
  simp only [acc] at he
  have hw : IntKind.i64.wrap (a.n - 1) = a.n - 1 := IntWalk.i64_in _ (by omega)
  have d1 : decide (t < u) = true := decide_eq_true hc.1
  have d2 : decide (u ≤ 1099511627776) = true := decide_eq_true hc.2
  obtain ⟨hc1, hc2⟩ := hc
  obtain ⟨ht1, ht2⟩ := ht
  obtain ⟨hp1, hp2⟩ := hp
  unfold acc ge
  go_enter Tryz.func89, Tryz.ntmps89
  go_wp2_with (first | (go_at_call 80; (with_reducible refine (in_yes (by omega) (by omega) _).mono ?_); rintro e w1 ⟨rfl, rfl⟩))
  go_ret
  exact ⟨by first | rfl | (simp; done) | (simp; exact hne), HB1.out _ _ _⟩
set_option maxRecDepth 100000 in
set_option maxHeartbeats 1000000 in
theorem event4 (a : Es) (v : Ve) (t p : Int) (w : World) (hn : 1 ≤ a.n ∧ a.n ≤ 16) (ht : 0 ≤ t ∧ t ≤ 1099511627776) (hp : 0 ≤ p ∧ p < a.n) :
    Calls Tryz.prog 89 #[.agg (ge a v), .agg (acc ⟨t, 4, p, 0, 0, 0, 0⟩)] w fun e w' => e = .returned (.bool true) ∧ Below w.heap.size w w' := by
  have HB1 := Lib.hid (below3 w)
  have he := fun W => (ac_eql ⟨t, 4, p, 0, 0, 0, 0⟩ ⟨t, 4, p, 0, 0, 0, 0⟩ W).trans (by rw [(acB_iff ⟨t, 4, p, 0, 0, 0, 0⟩ ⟨t, 4, p, 0, 0, 0, 0⟩).2 ⟨rfl, rfl, rfl, rfl, rfl, rfl, rfl⟩])
  simp only [acc] at he
  have hw : IntKind.i64.wrap (a.n - 1) = a.n - 1 := IntWalk.i64_in _ (by omega)
  obtain ⟨ht1, ht2⟩ := ht
  obtain ⟨hp1, hp2⟩ := hp
  unfold acc ge
  go_enter Tryz.func89, Tryz.ntmps89
  go_wp2_with (first | (go_at_call 80; (with_reducible refine (in_yes (by omega) (by omega) _).mono ?_); rintro e w1 ⟨rfl, rfl⟩))
  go_ret
  exact ⟨by first | rfl | (simp; done) | (simp; exact hne), HB1.out _ _ _⟩
set_option maxRecDepth 100000 in
set_option maxHeartbeats 1000000 in
theorem event5 (a : Es) (v : Ve) (t p c : Int) (w : World) (hn : 1 ≤ a.n ∧ a.n ≤ 16) (ht : 0 ≤ t ∧ t ≤ 1099511627776) (hp : 0 ≤ p ∧ p < a.n) (hc : 0 ≤ c ∧ c < 64) :
    Calls Tryz.prog 89 #[.agg (ge a v), .agg (acc ⟨t, 5, p, 0, 0, c, 0⟩)] w fun e w' => e = .returned (.bool true) ∧ Below w.heap.size w w' := by
  have HB1 := Lib.hid (below3 w)
  have he := fun W => (ac_eql ⟨t, 5, p, 0, 0, c, 0⟩ ⟨t, 5, p, 0, 0, c, 0⟩ W).trans (by rw [(acB_iff ⟨t, 5, p, 0, 0, c, 0⟩ ⟨t, 5, p, 0, 0, c, 0⟩).2 ⟨rfl, rfl, rfl, rfl, rfl, rfl, rfl⟩])
  simp only [acc] at he
  have hw : IntKind.i64.wrap (a.n - 1) = a.n - 1 := IntWalk.i64_in _ (by omega)
  obtain ⟨hc1, hc2⟩ := hc
  obtain ⟨ht1, ht2⟩ := ht
  obtain ⟨hp1, hp2⟩ := hp
  unfold acc ge
  go_enter Tryz.func89, Tryz.ntmps89
  go_wp2_with (first | (go_at_call 80; (with_reducible refine (in_yes (by omega) (by omega) _).mono ?_); rintro e w1 ⟨rfl, rfl⟩))
  go_ret
  exact ⟨by first | rfl | (simp; done) | (simp; exact hne), HB1.out _ _ _⟩
set_option maxRecDepth 100000 in
set_option maxHeartbeats 1000000 in
theorem event6 (a : Es) (v : Ve) (t p c : Int) (w : World) (hn : 1 ≤ a.n ∧ a.n ≤ 16) (ht : 0 ≤ t ∧ t ≤ 1099511627776) (hp : 0 ≤ p ∧ p < a.n) (hc : 0 ≤ c ∧ c < 64) :
    Calls Tryz.prog 89 #[.agg (ge a v), .agg (acc ⟨t, 6, p, 0, 0, c, 0⟩)] w fun e w' => e = .returned (.bool true) ∧ Below w.heap.size w w' := by
  have HB1 := Lib.hid (below3 w)
  have he := fun W => (ac_eql ⟨t, 6, p, 0, 0, c, 0⟩ ⟨t, 6, p, 0, 0, c, 0⟩ W).trans (by rw [(acB_iff ⟨t, 6, p, 0, 0, c, 0⟩ ⟨t, 6, p, 0, 0, c, 0⟩).2 ⟨rfl, rfl, rfl, rfl, rfl, rfl, rfl⟩])
  simp only [acc] at he
  have hw : IntKind.i64.wrap (a.n - 1) = a.n - 1 := IntWalk.i64_in _ (by omega)
  obtain ⟨hc1, hc2⟩ := hc
  obtain ⟨ht1, ht2⟩ := ht
  obtain ⟨hp1, hp2⟩ := hp
  unfold acc ge
  go_enter Tryz.func89, Tryz.ntmps89
  go_wp2_with (first | (go_at_call 80; (with_reducible refine (in_yes (by omega) (by omega) _).mono ?_); rintro e w1 ⟨rfl, rfl⟩))
  go_ret
  exact ⟨by first | rfl | (simp; done) | (simp; exact hne), HB1.out _ _ _⟩
set_option maxRecDepth 100000 in
set_option maxHeartbeats 1000000 in
theorem event7 (a : Es) (v : Ve) (t p f : Int) (w : World) (hn : 1 ≤ a.n ∧ a.n ≤ 16) (ht : 0 ≤ t ∧ t ≤ 1099511627776) (hp : 0 ≤ p ∧ p < a.n) (hc : 0 ≤ f ∧ f < a.n ∧ f ≠ p) :
    Calls Tryz.prog 89 #[.agg (ge a v), .agg (acc ⟨t, 7, p, 0, 0, 0, f⟩)] w fun e w' => e = .returned (.bool true) ∧ Below w.heap.size w w' := by
  have HB1 := Lib.hid (below3 w)
  have he := fun W => (ac_eql ⟨t, 7, p, 0, 0, 0, f⟩ ⟨t, 7, p, 0, 0, 0, f⟩ W).trans (by rw [(acB_iff ⟨t, 7, p, 0, 0, 0, f⟩ ⟨t, 7, p, 0, 0, 0, f⟩).2 ⟨rfl, rfl, rfl, rfl, rfl, rfl, rfl⟩])
  simp only [acc] at he
  have hw : IntKind.i64.wrap (a.n - 1) = a.n - 1 := IntWalk.i64_in _ (by omega)
  have d1 : (f == p) = false := beq_eq_false_iff_ne.2 hc.2.2
  obtain ⟨hc1, hc2, hne⟩ := hc
  obtain ⟨ht1, ht2⟩ := ht
  obtain ⟨hp1, hp2⟩ := hp
  unfold acc ge
  go_enter Tryz.func89, Tryz.ntmps89
  go_wp2_with (first | (go_at_call 80; (with_reducible refine (in_yes (by omega) (by omega) _).mono ?_); rintro e w1 ⟨rfl, rfl⟩))
  go_ret
  exact ⟨by first | rfl | (simp; done) | (simp; exact hne), HB1.out _ _ _⟩
theorem event_any (a : Es) (v : Ve) (x : Ac) (w : World) (hn : 1 ≤ a.n ∧ a.n ≤ 16) (hx : evP a.n x) :
    Calls Tryz.prog 89 #[.agg (ge a v), .agg (acc x)] w fun e w' => e = .returned (.bool true) ∧ Below w.heap.size w w' := by
  obtain ⟨t, k, p, r, u, c, f⟩ := x
  obtain ⟨h1, h2, h3, h4, h5⟩ := hx
  simp only [fitP] at h1 h2 h3 h4 h5
  rcases h5 with ⟨rfl | rfl, h6, h7, rfl, rfl, rfl⟩ | ⟨rfl, h6, h7, rfl, rfl, rfl⟩ | ⟨rfl, rfl, rfl, rfl, rfl⟩ | ⟨rfl | rfl, h6, h7, rfl, rfl, rfl⟩ | ⟨rfl, h6, h7, h8, rfl, rfl, rfl⟩
  · exact event1 a v t p r w hn ⟨h1, h2⟩ ⟨h3, h4⟩ ⟨h6, h7⟩
  · exact event2 a v t p r w hn ⟨h1, h2⟩ ⟨h3, h4⟩ ⟨h6, h7⟩
  · exact event3 a v t p u w hn ⟨h1, h2⟩ ⟨h3, h4⟩ ⟨h6, h7⟩
  · exact event4 a v t p w hn ⟨h1, h2⟩ ⟨h3, h4⟩
  · exact event5 a v t p c w hn ⟨h1, h2⟩ ⟨h3, h4⟩ ⟨h6, h7⟩
  · exact event6 a v t p c w hn ⟨h1, h2⟩ ⟨h3, h4⟩ ⟨h6, h7⟩
  · exact event7 a v t p f w hn ⟨h1, h2⟩ ⟨h3, h4⟩ ⟨h6, h7, h8⟩

end Go.Proofs.YtgknfkmojhganaaGreat.Di
