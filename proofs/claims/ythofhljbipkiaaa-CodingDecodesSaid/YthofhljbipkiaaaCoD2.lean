import Derived.Test.YthofhljbipkiaaaCoD1
namespace Go.Proofs.Ythofhljbipkiaaa.Co
open Go.RowKit
open Go.Proofs.Ythofhljbipkiaaa.Tp
set_option linter.unusedVariables false

set_option maxRecDepth 100000 in
set_option maxHeartbeats 4000000 in
theorem tob64_any (v : Value) (bs : List Nat) (w : World) (h : By w v bs) (hn : bs.length ≤ 1000000) :
    Calls Try.prog 23 #[v] w fun e w' => ∃ v', e = .returned v' ∧ ERel w (b64E bs) v' w' := by
  have HBY := Lib.hid h
  clear h
  go_enter Try.func23, Try.ntmps23
  go_wp2_with fail
  go_loopw [0, 3] (fun u v wr => ∃ (r xs : List Nat), By w u r ∧ ERel w xs v wr ∧ xs.length + 4 * r.length ≤ 4 * bs.length ∧ xs ++ b64E r = b64E bs) (fun u _ _ => lenOf u)
  case atStart => exact ⟨bs, [], HBY.out, ERel.start w, by simp, rfl⟩
  case round =>
    obtain ⟨r, xs, hby, hrel, hlen, hval⟩ := hrel
    obtain ⟨D, c, rfl⟩ := hby.form
    have HR := Lib.hid hrel
    have hbw := hrel.2.size
    have HV := Lib.hid hval
    have HB := Lib.hid hby
    clear hrel hval hby
    obtain ⟨n, hL⟩ : ∃ n, r.length = n := ⟨_, rfl⟩
    rw [hL] at hlen HB ⊢
    have HL := Lib.hid hL
    clear hL
    by_cases h3 : 3 ≤ n
    · obtain ⟨hln, p, off, rfl, hp, hcl⟩ := HB.out.at_ (by rw [HL.out]; omega)
      have HC3 := Lib.hid (show ∀ w', Below w.heap.size w w' → w'.cell? ⟨p, off, none⟩ = some (.int .u8 ((r.getD 0 0 : Nat) : Int)) ∧ w'.cell? ⟨p, off + 1, none⟩ = some (.int .u8 ((r.getD 1 0 : Nat) : Int)) ∧ w'.cell? ⟨p, off + 2, none⟩ = some (.int .u8 ((r.getD 2 0 : Nat) : Int)) from
        fun w' hw => ⟨hcl w' hw 0 (by rw [HL.out]; omega), hcl w' hw 1 (by rw [HL.out]; omega), hcl w' hw 2 (by rw [HL.out]; omega)⟩)
      obtain ⟨c0, c1, c2⟩ := HC3.out _ (HR.out.2.drew)
      have q0 := getD_le HB.out.1 0
      have q1 := getD_le HB.out.1 1
      have q2 := getD_le HB.out.1 2
      clear hcl hln
      have HRC := Lib.hid (r_cons3 (by rw [HL.out]; omega) : r = r.getD 0 0 :: r.getD 1 0 :: r.getD 2 0 :: r.drop 3)
      obtain ⟨a1, ar, s1, b1, t1, br, s2, d1, t2, dr, m1, m2, m3, m4, m5, m6, m7, m8, m9, m10, m11, m12, hall, l1, l2, l3, l4, l5, l6⟩ := b64_nums _ _ _ q0 q1 q2
      have HALL := Lib.hid hall
      generalize r.getD 0 0 = a at *
      generalize r.getD 1 0 = b at *
      generalize r.getD 2 0 = d at *
      have g1 := sg_at a1 l1
      have g2 := sg_at t1 l2
      have g3 := sg_at t2 l3
      have g4 := sg_at dr l4
      have HX : Hid (b64E r = [sgC a1, sgC t1, sgC t2, sgC dr] ++ b64E (r.drop 3)) := by
        obtain ⟨rfl, rfl, rfl, rfl, _⟩ := HALL.out
        show b64E r = _
        conv => lhs; rw [HRC.out]
        rfl
      have HOW := Lib.hid (own_bel HR.out.1 ((Below.refl wr.heap.size wr).drew))
      have HBD := Lib.hid ((Below.refl wr.heap.size wr).drew)
      have hx0 : xs.length + 4 ≤ 100000000 := by omega
      clear hall l1 l2 l3 l4 l5 l6 HALL
      generalize sgC a1 = x0 at *
      generalize sgC t1 = x1 at *
      generalize sgC t2 = x2 at *
      generalize sgC dr = x3 at *
      have h3i : (3 : Int) ≤ (n : Int) := by omega
      obtain ⟨hnc, hc63⟩ : n ≤ c ∧ c ≤ maxLen := by
        rcases HB.out.2 with ⟨_, _, e, _⟩ | ⟨_, _, _, e, e1, e2, _⟩
        · cases e
          omega
        · cases e
          exact ⟨e1, e2⟩
      unfold maxLen at hc63
      have hnci : (n : Int) ≤ (c : Int) := by omega
      have h3c : (3 : Int) ≤ (c : Int) := by omega
      have h2i : (2 : Int) < (n : Int) := by omega
      have h1i : (1 : Int) < (n : Int) := by omega
      have h0i : (0 : Int) < (n : Int) := by omega
      have h0n : 0 < n := by omega
      go_wp2_with fail
      go_region_held3 (fun w' => w'.cell? ⟨p, off, none⟩ = some (.int .u8 (a : Int)) ∧ w'.cell? ⟨p, off + 1, none⟩ = some (.int .u8 (b : Int)) ∧ w'.cell? ⟨p, off + 2, none⟩ = some (.int .u8 (d : Int)))
        (first | exact ⟨c0, c1, c2⟩ | exact ⟨cell_al c0 _, cell_al c1 _, cell_al c2 _⟩ | assumption)
        (first
        | (refine step_lit (by rfl) (.tmp 9) (.tmp 42) (by rfl) w.heap.size u3 xs [x0, x1, x2, x3] (by rfl) (by rfl) (by rfl) HOW.out (by simp) (by simpa using hx0) (Nat.le_trans hbw HBD.out.size) ?_; intro v' w3 hown hgr; have HO := Lib.hid (HR.out.more (HBD.out.alloc (Nat.le_refl _) _) hown hgr); clear hown hgr; have k3 := HC3.out _ HO.out.2))
      all_goals
        go_wp2_with fail
        refine ⟨⟨r.drop 3, xs ++ [x0, x1, x2, x3], HB.out.drop3 h3, HO.out, ?_, ?_⟩, ?_⟩
        · rw [List.length_append, List.length_drop, HL.out]
          simp
          omega
        · rw [List.append_assoc, ← HX, HV.out]
        · show n - 3 < n
          omega
    · have h3i : ¬ (3 : Int) ≤ (n : Int) := by omega
      rcases (by omega : n = 0 ∨ n = 1 ∨ n = 2) with rfl | rfl | rfl
      · have hr0 : r = [] := List.eq_nil_of_length_eq_zero HL.out
        subst hr0
        have HF : Hid (b64E bs = xs) := by
          have := HV.out
          show _ = _
          rw [← this]
          simp [b64E]
        go_wp2_with fail
        go_ret
        exact ⟨_, rfl, by rw [HF]; exact HR.out⟩
      · obtain ⟨a, rfl⟩ : ∃ a, r = [a] := List.length_eq_one_iff.1 HL.out
        obtain ⟨hln, p, off, rfl, hp, hcl⟩ := HB.out.at_ (by simp)
        have q0 : a ≤ 255 := HB.out.1 a (by simp)
        have HC3 := Lib.hid (show ∀ w', Below w.heap.size w w' → w'.cell? ⟨p, off, none⟩ = some (.int .u8 (a : Int)) from fun w' hw => hcl w' hw 0 (by simp))
        have c0 := HC3.out _ (HR.out.2.drew)
        obtain ⟨a1, ar, s1, b1, t1, br, s2, d1, t2, dr, m1, m2, m3, m4, m5, m6, m7, m8, m9, m10, m11, m12, hall, l1, l2, l3, l4, l5, l6⟩ := b64_nums a 0 0 q0 (by omega) (by omega)
        have HALL := Lib.hid hall
        have g1 := sg_at a1 l1
        have g2 := sg_at s1 l5
        have HF : Hid (b64E bs = xs ++ [sgC a1, sgC s1, 61, 61]) := by
          obtain ⟨rfl, _, _, _, rfl, _⟩ := HALL.out
          show _ = _
          rw [← HV.out]
          rfl
        have HOW := Lib.hid (own_bel HR.out.1 ((Below.refl wr.heap.size wr).drew))
        have HBD := Lib.hid ((Below.refl wr.heap.size wr).drew)
        have hx0 : xs.length + 4 ≤ 100000000 := by omega
        clear hall l1 l2 l3 l4 l5 l6 HALL hcl hln m5 m6 m7 m8 m9 m10 m11 m12
        generalize sgC a1 = x0 at *
        generalize sgC s1 = x1 at *
        go_wp2_with fail
        go_region_held3 (fun w' => w'.cell? ⟨p, off, none⟩ = some (.int .u8 (a : Int)))
          (first | exact c0 | exact cell_al c0 _ | assumption)
          (first
          | (refine step_lit (by rfl) (.tmp 48) (.tmp 60) (by rfl) w.heap.size u3 xs [x0, x1, 61, 61] (by rfl) (by rfl) (by rfl) HOW.out (by simp) (by simpa using hx0) (Nat.le_trans hbw HBD.out.size) ?_; intro v' w3 hown hgr; have HO := Lib.hid (HR.out.more (HBD.out.alloc (Nat.le_refl _) _) hown hgr); clear hown hgr; have k3 := HC3.out _ HO.out.2))
        all_goals
          go_wp2_with fail
          go_ret
          exact ⟨_, rfl, by rw [HF]; exact HO.out⟩
      · obtain ⟨a, b, rfl⟩ : ∃ a b, r = [a, b] := by
          match r, HL.out with
          | [a, b], _ => exact ⟨a, b, rfl⟩
        obtain ⟨hln, p, off, rfl, hp, hcl⟩ := HB.out.at_ (by simp)
        have q0 : a ≤ 255 := HB.out.1 a (by simp)
        have q1 : b ≤ 255 := HB.out.1 b (by simp)
        have HC3 := Lib.hid (show ∀ w', Below w.heap.size w w' → w'.cell? ⟨p, off, none⟩ = some (.int .u8 (a : Int)) ∧ w'.cell? ⟨p, off + 1, none⟩ = some (.int .u8 (b : Int)) from fun w' hw => ⟨hcl w' hw 0 (by simp), hcl w' hw 1 (by simp)⟩)
        obtain ⟨c0, c1⟩ := HC3.out _ (HR.out.2.drew)
        obtain ⟨a1, ar, s1, b1, t1, br, s2, d1, t2, dr, m1, m2, m3, m4, m5, m6, m7, m8, m9, m10, m11, m12, hall, l1, l2, l3, l4, l5, l6⟩ := b64_nums a b 0 q0 q1 (by omega)
        have HALL := Lib.hid hall
        have g1 := sg_at a1 l1
        have g2 := sg_at t1 l2
        have g3 := sg_at s2 l6
        have HF : Hid (b64E bs = xs ++ [sgC a1, sgC t1, sgC s2, 61]) := by
          obtain ⟨rfl, rfl, _, _, _, rfl⟩ := HALL.out
          show _ = _
          rw [← HV.out]
          rfl
        have HOW := Lib.hid (own_bel HR.out.1 ((Below.refl wr.heap.size wr).drew))
        have HBD := Lib.hid ((Below.refl wr.heap.size wr).drew)
        have hx0 : xs.length + 4 ≤ 100000000 := by omega
        clear hall l1 l2 l3 l4 l5 l6 HALL hcl hln m10 m11 m12
        generalize sgC a1 = x0 at *
        generalize sgC t1 = x1 at *
        generalize sgC s2 = x2 at *
        go_wp2_with fail
        go_region_held3 (fun w' => w'.cell? ⟨p, off, none⟩ = some (.int .u8 (a : Int)) ∧ w'.cell? ⟨p, off + 1, none⟩ = some (.int .u8 (b : Int)))
          (first | exact ⟨c0, c1⟩ | exact ⟨cell_al c0 _, cell_al c1 _⟩ | assumption)
          (first
          | (refine step_lit (by rfl) (.tmp 64) (.tmp 87) (by rfl) w.heap.size u3 xs [x0, x1, x2, 61] (by rfl) (by rfl) (by rfl) HOW.out (by simp) (by simpa using hx0) (Nat.le_trans hbw HBD.out.size) ?_; intro v' w3 hown hgr; have HO := Lib.hid (HR.out.more (HBD.out.alloc (Nat.le_refl _) _) hown hgr); clear hown hgr; have k3 := HC3.out _ HO.out.2))
        all_goals
          go_wp2_with fail
          go_ret
          exact ⟨_, rfl, by rw [HF]; exact HO.out⟩

end Go.Proofs.Ythofhljbipkiaaa.Co
