import Derived.Test.YthofhljbipkiaaaCoD1
import Derived.Laws.AppendOwnNone
namespace Go.Proofs.Ythofhljbipkiaaa.Co
open Go.RowKit
open Go.Proofs.Ythofhljbipkiaaa.Tp
set_option linter.unusedVariables false

set_option maxHeartbeats 4000000 in
theorem refplain_any (c : Nat) (w : World) : Calls Try.prog 27 #[.int .u8 c] w fun e w' => e = .returned (.bool (plainB c)) ∧ w = w' := by
  rcases (by omega : c ≤ 44 ∨ c = 45 ∨ c = 46 ∨ c = 47 ∨ (48 ≤ c ∧ c ≤ 57) ∨ (58 ≤ c ∧ c ≤ 64) ∨ (65 ≤ c ∧ c ≤ 90) ∨ (91 ≤ c ∧ c ≤ 94) ∨ c = 95 ∨ c = 96 ∨ (97 ≤ c ∧ c ≤ 122) ∨ (123 ≤ c ∧ c ≤ 125) ∨ c = 126 ∨ 127 ≤ c) with h | rfl | rfl | rfl | ⟨h, h'⟩ | ⟨h, h'⟩ | ⟨h, h'⟩ | ⟨h, h'⟩ | rfl | rfl | ⟨h, h'⟩ | ⟨h, h'⟩ | rfl | h
  · rw [show plainB c = false by unfold plainB digB letB; simp; omega]
    have d0 : decide ((48 : Int) ≤ (c : Int)) = false := decide_eq_false (by omega)
    have d1 : decide ((c : Int) ≤ 57) = true := decide_eq_true (by omega)
    have d2 : decide ((97 : Int) ≤ (c : Int)) = false := decide_eq_false (by omega)
    have d3 : decide ((c : Int) ≤ 122) = true := decide_eq_true (by omega)
    have d4 : decide ((65 : Int) ≤ (c : Int)) = false := decide_eq_false (by omega)
    have d5 : decide ((c : Int) ≤ 90) = true := decide_eq_true (by omega)
    have f0 : ((c : Int) == 45) = false := beq_eq_false_iff_ne.2 (by omega)
    have f1 : ((c : Int) == 46) = false := beq_eq_false_iff_ne.2 (by omega)
    have f2 : ((c : Int) == 95) = false := beq_eq_false_iff_ne.2 (by omega)
    have f3 : ((c : Int) == 126) = false := beq_eq_false_iff_ne.2 (by omega)
    go_enter Try.func27, Try.ntmps27
    go_wp2
    go_ret
    exact ⟨rfl, rfl⟩
  · rw [show plainB 45 = true by decide]
    go_enter Try.func27, Try.ntmps27
    go_wp2
    go_ret
    exact ⟨rfl, rfl⟩
  · rw [show plainB 46 = true by decide]
    go_enter Try.func27, Try.ntmps27
    go_wp2
    go_ret
    exact ⟨rfl, rfl⟩
  · rw [show plainB 47 = false by decide]
    go_enter Try.func27, Try.ntmps27
    go_wp2
    go_ret
    exact ⟨rfl, rfl⟩
  · rw [show plainB c = true by unfold plainB digB letB; simp; omega]
    have d0 : decide ((48 : Int) ≤ (c : Int)) = true := decide_eq_true (by omega)
    have d1 : decide ((c : Int) ≤ 57) = true := decide_eq_true (by omega)
    have d2 : decide ((97 : Int) ≤ (c : Int)) = false := decide_eq_false (by omega)
    have d3 : decide ((c : Int) ≤ 122) = true := decide_eq_true (by omega)
    have d4 : decide ((65 : Int) ≤ (c : Int)) = false := decide_eq_false (by omega)
    have d5 : decide ((c : Int) ≤ 90) = true := decide_eq_true (by omega)
    have f0 : ((c : Int) == 45) = false := beq_eq_false_iff_ne.2 (by omega)
    have f1 : ((c : Int) == 46) = false := beq_eq_false_iff_ne.2 (by omega)
    have f2 : ((c : Int) == 95) = false := beq_eq_false_iff_ne.2 (by omega)
    have f3 : ((c : Int) == 126) = false := beq_eq_false_iff_ne.2 (by omega)
    go_enter Try.func27, Try.ntmps27
    go_wp2
    go_ret
    exact ⟨rfl, rfl⟩
  · rw [show plainB c = false by unfold plainB digB letB; simp; omega]
    have d0 : decide ((48 : Int) ≤ (c : Int)) = true := decide_eq_true (by omega)
    have d1 : decide ((c : Int) ≤ 57) = false := decide_eq_false (by omega)
    have d2 : decide ((97 : Int) ≤ (c : Int)) = false := decide_eq_false (by omega)
    have d3 : decide ((c : Int) ≤ 122) = true := decide_eq_true (by omega)
    have d4 : decide ((65 : Int) ≤ (c : Int)) = false := decide_eq_false (by omega)
    have d5 : decide ((c : Int) ≤ 90) = true := decide_eq_true (by omega)
    have f0 : ((c : Int) == 45) = false := beq_eq_false_iff_ne.2 (by omega)
    have f1 : ((c : Int) == 46) = false := beq_eq_false_iff_ne.2 (by omega)
    have f2 : ((c : Int) == 95) = false := beq_eq_false_iff_ne.2 (by omega)
    have f3 : ((c : Int) == 126) = false := beq_eq_false_iff_ne.2 (by omega)
    go_enter Try.func27, Try.ntmps27
    go_wp2
    go_ret
    exact ⟨rfl, rfl⟩
  · rw [show plainB c = true by unfold plainB digB letB; simp; omega]
    have d0 : decide ((48 : Int) ≤ (c : Int)) = true := decide_eq_true (by omega)
    have d1 : decide ((c : Int) ≤ 57) = false := decide_eq_false (by omega)
    have d2 : decide ((97 : Int) ≤ (c : Int)) = false := decide_eq_false (by omega)
    have d3 : decide ((c : Int) ≤ 122) = true := decide_eq_true (by omega)
    have d4 : decide ((65 : Int) ≤ (c : Int)) = true := decide_eq_true (by omega)
    have d5 : decide ((c : Int) ≤ 90) = true := decide_eq_true (by omega)
    have f0 : ((c : Int) == 45) = false := beq_eq_false_iff_ne.2 (by omega)
    have f1 : ((c : Int) == 46) = false := beq_eq_false_iff_ne.2 (by omega)
    have f2 : ((c : Int) == 95) = false := beq_eq_false_iff_ne.2 (by omega)
    have f3 : ((c : Int) == 126) = false := beq_eq_false_iff_ne.2 (by omega)
    go_enter Try.func27, Try.ntmps27
    go_wp2
    go_ret
    exact ⟨rfl, rfl⟩
  · rw [show plainB c = false by unfold plainB digB letB; simp; omega]
    have d0 : decide ((48 : Int) ≤ (c : Int)) = true := decide_eq_true (by omega)
    have d1 : decide ((c : Int) ≤ 57) = false := decide_eq_false (by omega)
    have d2 : decide ((97 : Int) ≤ (c : Int)) = false := decide_eq_false (by omega)
    have d3 : decide ((c : Int) ≤ 122) = true := decide_eq_true (by omega)
    have d4 : decide ((65 : Int) ≤ (c : Int)) = true := decide_eq_true (by omega)
    have d5 : decide ((c : Int) ≤ 90) = false := decide_eq_false (by omega)
    have f0 : ((c : Int) == 45) = false := beq_eq_false_iff_ne.2 (by omega)
    have f1 : ((c : Int) == 46) = false := beq_eq_false_iff_ne.2 (by omega)
    have f2 : ((c : Int) == 95) = false := beq_eq_false_iff_ne.2 (by omega)
    have f3 : ((c : Int) == 126) = false := beq_eq_false_iff_ne.2 (by omega)
    go_enter Try.func27, Try.ntmps27
    go_wp2
    go_ret
    exact ⟨rfl, rfl⟩
  · rw [show plainB 95 = true by decide]
    go_enter Try.func27, Try.ntmps27
    go_wp2
    go_ret
    exact ⟨rfl, rfl⟩
  · rw [show plainB 96 = false by decide]
    go_enter Try.func27, Try.ntmps27
    go_wp2
    go_ret
    exact ⟨rfl, rfl⟩
  · rw [show plainB c = true by unfold plainB digB letB; simp; omega]
    have d0 : decide ((48 : Int) ≤ (c : Int)) = true := decide_eq_true (by omega)
    have d1 : decide ((c : Int) ≤ 57) = false := decide_eq_false (by omega)
    have d2 : decide ((97 : Int) ≤ (c : Int)) = true := decide_eq_true (by omega)
    have d3 : decide ((c : Int) ≤ 122) = true := decide_eq_true (by omega)
    have d4 : decide ((65 : Int) ≤ (c : Int)) = true := decide_eq_true (by omega)
    have d5 : decide ((c : Int) ≤ 90) = false := decide_eq_false (by omega)
    have f0 : ((c : Int) == 45) = false := beq_eq_false_iff_ne.2 (by omega)
    have f1 : ((c : Int) == 46) = false := beq_eq_false_iff_ne.2 (by omega)
    have f2 : ((c : Int) == 95) = false := beq_eq_false_iff_ne.2 (by omega)
    have f3 : ((c : Int) == 126) = false := beq_eq_false_iff_ne.2 (by omega)
    go_enter Try.func27, Try.ntmps27
    go_wp2
    go_ret
    exact ⟨rfl, rfl⟩
  · rw [show plainB c = false by unfold plainB digB letB; simp; omega]
    have d0 : decide ((48 : Int) ≤ (c : Int)) = true := decide_eq_true (by omega)
    have d1 : decide ((c : Int) ≤ 57) = false := decide_eq_false (by omega)
    have d2 : decide ((97 : Int) ≤ (c : Int)) = true := decide_eq_true (by omega)
    have d3 : decide ((c : Int) ≤ 122) = false := decide_eq_false (by omega)
    have d4 : decide ((65 : Int) ≤ (c : Int)) = true := decide_eq_true (by omega)
    have d5 : decide ((c : Int) ≤ 90) = false := decide_eq_false (by omega)
    have f0 : ((c : Int) == 45) = false := beq_eq_false_iff_ne.2 (by omega)
    have f1 : ((c : Int) == 46) = false := beq_eq_false_iff_ne.2 (by omega)
    have f2 : ((c : Int) == 95) = false := beq_eq_false_iff_ne.2 (by omega)
    have f3 : ((c : Int) == 126) = false := beq_eq_false_iff_ne.2 (by omega)
    go_enter Try.func27, Try.ntmps27
    go_wp2
    go_ret
    exact ⟨rfl, rfl⟩
  · rw [show plainB 126 = true by decide]
    go_enter Try.func27, Try.ntmps27
    go_wp2
    go_ret
    exact ⟨rfl, rfl⟩
  · rw [show plainB c = false by unfold plainB digB letB; simp; omega]
    have d0 : decide ((48 : Int) ≤ (c : Int)) = true := decide_eq_true (by omega)
    have d1 : decide ((c : Int) ≤ 57) = false := decide_eq_false (by omega)
    have d2 : decide ((97 : Int) ≤ (c : Int)) = true := decide_eq_true (by omega)
    have d3 : decide ((c : Int) ≤ 122) = false := decide_eq_false (by omega)
    have d4 : decide ((65 : Int) ≤ (c : Int)) = true := decide_eq_true (by omega)
    have d5 : decide ((c : Int) ≤ 90) = false := decide_eq_false (by omega)
    have f0 : ((c : Int) == 45) = false := beq_eq_false_iff_ne.2 (by omega)
    have f1 : ((c : Int) == 46) = false := beq_eq_false_iff_ne.2 (by omega)
    have f2 : ((c : Int) == 95) = false := beq_eq_false_iff_ne.2 (by omega)
    have f3 : ((c : Int) == 126) = false := beq_eq_false_iff_ne.2 (by omega)
    go_enter Try.func27, Try.ntmps27
    go_wp2
    go_ret
    exact ⟨rfl, rfl⟩

theorem by_lit {w : World} {bs : List Nat} {cs : Array Value} (hb : ∀ b ∈ bs, b ≤ 255) (hcs : cs = (u8s bs).toArray) (hl : bs.length ≤ 1000) : By (w.alloc (.cells cs 5)) (.slice (some ⟨w.heap.size, 0, none⟩) bs.length bs.length) bs := by
  subst hcs
  refine ⟨hb, .inr ⟨w.heap.size, 0, bs.length, rfl, Nat.le_refl _, by unfold maxLen; omega, by simp, fun j hj => ?_⟩⟩
  rw [Nat.zero_add, cell_of_row _ _ _ _ _ _ (heap_alloc_new w _)]
  simp [u8s, hj]

theorem u8s_at (bs : List Nat) (j : Nat) (u : Value) (h : (u8s bs)[j]? = some u) : j < bs.length ∧ u = .int .u8 ((bs.getD j 0 : Nat) : Int) := by
  simp only [u8s, List.getElem?_map, Option.map_eq_some_iff] at h
  obtain ⟨b, hb, rfl⟩ := h
  have hlt := (List.getElem?_eq_some_iff.1 hb).1
  refine ⟨hlt, ?_⟩
  rw [List.getD_eq_getElem?_getD, hb]
  rfl

/-- 'append(out, x...)', in order. -/
theorem wp_by {ops : Array Oper} {rest : List Oper} {o : Oper} {a : Act} {w : World} {Q : Exit → Act → World → Prop} (hgd : o.guard = none) (s x : Operand)
    (ho : o.op = .call { callee := .builtin .append, args := #[s, x], argTypes := #[23, 23] }) (base : Nat) (v v2 : Value) (xs bs : List Nat) (hs : a.eval s = v) (hx : a.eval x = v2)
    (hown : w.ownsRow base 5 1 v xs.length (u8s xs)) (hby : By w v2 bs) (h0 : 0 < bs.length) (h63 : xs.length + bs.length ≤ 100000000) (hbase : base ≤ w.heap.size)
    (h : ∀ v' w', w'.ownsRow base 5 1 v' (xs ++ bs).length (u8s (xs ++ bs)) → w.grownBy w' v.ownBlock → wpList Try.prog ops Q rest (a.put o.dst v') w') : wpList Try.prog ops Q (o :: rest) a w := by
  obtain ⟨i0, hi, hz0, hz1, hz2⟩ := info_parts info5
  rcases hby.2 with ⟨_, _, rfl, rfl⟩ | ⟨b, off, c, rfl, h1, h2, h3, h4⟩
  · simp at h0
  · refine wpList_append_own _ hgd s x 23 ho base 5 i0 (.int .u8 0) 1 1 Try.underlying23 hi hz0 hz1 hz2 rfl (by decide) v xs.length (u8s xs) hs hown ⟨b, off, none⟩ bs.length c (u8s bs) hx (by rw [u8s_len, Nat.mul_one]) (fun j u hj => ?_) (u8s_one bs) (by unfold maxLen; omega) (by omega) hbase ?_
    · obtain ⟨hjl, rfl⟩ := u8s_at bs j u hj
      have ea : (⟨b, off, none⟩ : Addr).add j = ⟨b, off + j, none⟩ := by unfold Addr.add; split <;> simp_all
      rw [ea]
      exact h4 j hjl
    · intro v' w' k1 k2 _
      rw [u8s_app] at k1
      exact h v' w' (by rw [List.length_append]; exact k1) k2

set_option maxHeartbeats 4000000 in
theorem refesc_any (b : Nat) (w : World) (hb : b ≤ 255) : Calls Try.prog 28 #[.int .u8 b] w fun e w' => ∃ v, e = .returned v ∧ By w' v (escC b) ∧ Below w.heap.size w w' := by
  rcases esc_cases b with (rfl | rfl | rfl | rfl) | ⟨f1, f2, f3, f4, ⟨f5, hE2⟩ | ⟨f5, f6, hE2⟩ | ⟨f5, f6, hE2⟩⟩
  · go_enter Try.func28, Try.ntmps28
    go_wp2
    go_ret
    exact ⟨_, rfl, by_lit (bs := [92, 110]) (by simp) (by rfl) (by simp), box_below _ _⟩
  · go_enter Try.func28, Try.ntmps28
    go_wp2
    go_ret
    exact ⟨_, rfl, by_lit (bs := [92, 114]) (by simp) (by rfl) (by simp), box_below _ _⟩
  · go_enter Try.func28, Try.ntmps28
    go_wp2
    go_ret
    exact ⟨_, rfl, by_lit (bs := [92, 116]) (by simp) (by rfl) (by simp), box_below _ _⟩
  · go_enter Try.func28, Try.ntmps28
    go_wp2
    go_ret
    exact ⟨_, rfl, by_lit (bs := [92, 92]) (by simp) (by rfl) (by simp), box_below _ _⟩
  · rw [hE2]
    have g1 := lo_at (b / 16) (by omega)
    have g2 := lo_at (b % 16) (by omega)
    have l1 := loC_le (d := b / 16) (by omega)
    have l2 := loC_le (d := b % 16) (by omega)
    have ha := and15b b (by omega)
    have hsh : (b : Int) / 16 = ((b / 16 : Nat) : Int) := by omega
    clear hE2
    generalize b / 16 = q at *
    generalize b % 16 = r at *
    generalize loC q = x at *
    generalize loC r = y at *
    have HBD := Lib.hid ((Below.refl w.heap.size w).drew)
    have HBY := Lib.hid (by_lit (w := w.drew) (bs := [92, 120, x, y]) (cs := #[.int .u8 ((92 : Nat) : Int), .int .u8 ((120 : Nat) : Int), .int .u8 (x : Int), .int .u8 (y : Int)]) (by simp; omega) (by rfl) (by simp))
    go_enter Try.func28, Try.ntmps28
    go_wp2_with fail
    go_region_held3 (fun _ => True) (trivial) (fail)
    all_goals
      go_wp2_with fail
      go_ret
      exact ⟨_, rfl, HBY.out, HBD.out.alloc (Nat.le_refl _) _⟩
  · rw [hE2]
    have g1 := lo_at (b / 16) (by omega)
    have g2 := lo_at (b % 16) (by omega)
    have l1 := loC_le (d := b / 16) (by omega)
    have l2 := loC_le (d := b % 16) (by omega)
    have ha := and15b b (by omega)
    have hsh : (b : Int) / 16 = ((b / 16 : Nat) : Int) := by omega
    clear hE2
    generalize b / 16 = q at *
    generalize b % 16 = r at *
    generalize loC q = x at *
    generalize loC r = y at *
    have HBD := Lib.hid ((Below.refl w.heap.size w).drew)
    have HBY := Lib.hid (by_lit (w := w.drew) (bs := [92, 120, x, y]) (cs := #[.int .u8 ((92 : Nat) : Int), .int .u8 ((120 : Nat) : Int), .int .u8 (x : Int), .int .u8 (y : Int)]) (by simp; omega) (by rfl) (by simp))
    go_enter Try.func28, Try.ntmps28
    go_wp2_with fail
    go_region_held3 (fun _ => True) (trivial) (fail)
    all_goals
      go_wp2_with fail
      go_ret
      exact ⟨_, rfl, HBY.out, HBD.out.alloc (Nat.le_refl _) _⟩
  · rw [hE2]
    go_enter Try.func28, Try.ntmps28
    go_wp2
    go_ret
    exact ⟨_, rfl, by_lit (bs := [b]) (by simpa using hb) (by rfl) (by simp), box_below _ _⟩

end Go.Proofs.Ythofhljbipkiaaa.Co
