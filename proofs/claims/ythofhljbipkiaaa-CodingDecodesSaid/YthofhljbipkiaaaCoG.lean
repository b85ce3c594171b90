import Derived.Test.YthofhljbipkiaaaCoF
namespace Go.Proofs.Ythofhljbipkiaaa.Co
open Go.RowKit
open Go.Proofs.Ythofhljbipkiaaa.Tp
set_option linter.unusedVariables false

set_option maxRecDepth 100000 in
set_option maxHeartbeats 8000000 in
theorem refb64_any (v : Value) (bs : List Nat) (w : World) (h : By w v bs) (hn : bs.length ≤ 1000000) :
    Calls Try.prog 26 #[v] w fun e w' => ∃ v', e = .returned v' ∧ ERel w (b64E bs) v' w' := by
  obtain ⟨D, c, rfl⟩ := h.form
  have HBY := Lib.hid h
  have hle := h.1
  have HLE := Lib.hid hle
  obtain ⟨n, hL⟩ : ∃ n, bs.length = n := ⟨_, rfl⟩
  rw [hL] at hn ⊢
  have HL := Lib.hid hL
  clear h hle hL
  go_enter Try.func26, Try.ntmps26
  go_wp2_with fail
  go_loopw [3, 4] (fun u i wr => ∃ (k : Nat) (xs : List Nat), k ≤ n + 2 ∧ i = .int .i64 (k : Int) ∧ ERel w xs u wr ∧ xs.length ≤ 4 * k ∧ xs ++ b64E (bs.drop k) = b64E bs) (fun _ i _ => n + 3 - (intOf i).toNat)
  case atStart => exact ⟨0, [], by omega, rfl, ERel.start w, by simp, by simp⟩
  case round =>
    obtain ⟨k, xs, hk, rfl, hrel, hlen, hval⟩ := hrel
    have HR := Lib.hid hrel
    have hbw := hrel.2.size
    have HV := Lib.hid hval
    clear hrel hval
    by_cases hlt : k < n
    · obtain ⟨hln, p, off, rfl, hp, hcl⟩ := HBY.out.at_ (by rw [HL.out]; omega)
      rcases (by omega : k + 3 ≤ n ∨ k + 2 = n ∨ k + 1 = n) with h3 | h3 | h3
      · have c0 := hcl _ HR.out.2 k (by rw [HL.out]; omega)
        have c1 := hcl _ HR.out.2 (k + 1) (by rw [HL.out]; omega)
        have c2 := hcl _ HR.out.2 (k + 2) (by rw [HL.out]; omega)
        have q0 := getD_le HLE.out k
        have q1 := getD_le HLE.out (k + 1)
        have q2 := getD_le HLE.out (k + 2)
        have HD := Lib.hid (show bs.drop k = bs.getD k 0 :: bs.getD (k + 1) 0 :: bs.getD (k + 2) 0 :: bs.drop (k + 3) by rw [drop_cons (k := k) (by rw [HL.out]; omega), drop_cons (k := k + 1) (by rw [HL.out]; omega), drop_cons (k := k + 1 + 1) (by rw [HL.out]; omega)])
        clear hcl hln
        generalize bs.getD k 0 = a at *
        generalize bs.getD (k + 1) 0 = b at *
        generalize bs.getD (k + 2) 0 = d at *
        obtain ⟨z1, z2, z3, y1, z4, y2, y3, y4, z5, z6, m1, m2, m3, m4, m5, m6, m7, m8, m9, m10, hall, l1, l2, l3, l4, l5, l6, l7, l8, l9, l10⟩ := ref_nums a b d q0 q1 q2
        have HALL := Lib.hid hall
        have HY := Lib.hid (⟨l1, l2, l3, l4⟩ : y1 < 64 ∧ y2 < 64 ∧ y3 < 64 ∧ y4 < 64)
        have g1 := sg_ati y1 l1
        have g2 := sg_ati y2 l2
        have g3 := sg_ati y3 l3
        have g4 := sg_ati y4 l4
        have wa : IntKind.i64.wrap (a : Int) = (a : Int) := IntWalk.i64_in _ (by omega)
        have wb : IntKind.i64.wrap (b : Int) = (b : Int) := IntWalk.i64_in _ (by omega)
        have wd : IntKind.i64.wrap (d : Int) = (d : Int) := IntWalk.i64_in _ (by omega)
        have wz1 : IntKind.i64.wrap (z1 : Int) = (z1 : Int) := IntWalk.i64_in _ (by omega)
        have wz2 : IntKind.i64.wrap (z2 : Int) = (z2 : Int) := IntWalk.i64_in _ (by omega)
        have wz3 : IntKind.i64.wrap (z3 : Int) = (z3 : Int) := IntWalk.i64_in _ (by omega)
        have wz4 : IntKind.i64.wrap (z4 : Int) = (z4 : Int) := IntWalk.i64_in _ (by omega)
        obtain ⟨k1, e1⟩ : ∃ k1, k + 1 = k1 := ⟨_, rfl⟩
        obtain ⟨k2, e2⟩ : ∃ k2, k + 2 = k2 := ⟨_, rfl⟩
        obtain ⟨k3, e3⟩ : ∃ k3, k + 3 = k3 := ⟨_, rfl⟩
        have i1 : (k : Int) + 1 = (k1 : Int) := by omega
        have i2 : (k : Int) + 2 = (k2 : Int) := by omega
        have i3 : (k : Int) + 3 = (k3 : Int) := by omega
        have w1 : IntKind.i64.wrap (k1 : Int) = (k1 : Int) := IntWalk.i64_in _ (by omega)
        have w2 : IntKind.i64.wrap (k2 : Int) = (k2 : Int) := IntWalk.i64_in _ (by omega)
        have w3 : IntKind.i64.wrap (k3 : Int) = (k3 : Int) := IntWalk.i64_in _ (by omega)
        have hki : (k : Int) < (n : Int) := by omega
        rw [e1] at c1
        have j1 : (k1 : Int) < (n : Int) := by omega
        have j1' : ¬ (n : Int) ≤ (k1 : Int) := by omega
        rw [e2] at c2
        have j2 : (k2 : Int) < (n : Int) := by omega
        have j2' : ¬ (n : Int) ≤ (k2 : Int) := by omega
        have HF : Hid (b64E (bs.drop k) = [sgC y1, sgC y2, sgC y3, sgC y4] ++ b64E (bs.drop k3)) := by
          obtain ⟨h1, h2, h3, h4, _⟩ := HALL.out
          show _ = _
          rw [HD.out, h1, h2, h3, h4, ← e3]
          rfl
        have HOW := Lib.hid (own_bel HR.out.1 ((Below.refl wr.heap.size wr).drew))
        have HBD := Lib.hid ((Below.refl wr.heap.size wr).drew)
        have hx0 : xs.length + 4 ≤ 100000000 := by omega
        clear hall l1 l2 l3 l4 l5 l6 l7 l8 l9 l10 HALL HY
        generalize sgC y1 = x1 at *
        generalize sgC y2 = x2 at *
        generalize sgC y3 = x3 at *
        generalize sgC y4 = x4 at *
        have hr4 := row4 wr.drew (.int .u8 (x1 : Int)) (.int .u8 (x2 : Int)) (.int .u8 (x3 : Int)) (.int .u8 (x4 : Int))
        obtain ⟨r1, r2, r3, r4⟩ := hr4
        have s1 := (set4 wr.drew (.int .u8 (x1 : Int)) (.int .u8 (x2 : Int)) (.int .u8 (x3 : Int)) (.int .u8 (x4 : Int)) (.int .u8 61) rfl rfl rfl).1
        have s2 := (set4 wr.drew (.int .u8 (x1 : Int)) (.int .u8 (x2 : Int)) (.int .u8 (x3 : Int)) (.int .u8 (x4 : Int)) (.int .u8 61) rfl rfl rfl).2
        obtain ⟨r5, r6, r7, r8⟩ := row4 wr.drew (.int .u8 (x1 : Int)) (.int .u8 (x2 : Int)) (.int .u8 61) (.int .u8 (x4 : Int))
        have s3 := (set4 wr.drew (.int .u8 (x1 : Int)) (.int .u8 (x2 : Int)) (.int .u8 61) (.int .u8 (x4 : Int)) (.int .u8 61) rfl rfl rfl).2
        go_wp2_with fail
        go_region_held3 (fun _ => True) (trivial) (fail)
        all_goals
          go_wp2_with (at_builtin; refine wp_lit (by rfl) (.tmp 75) (.tmp 76) (by rfl) w.heap.size u3 xs [x1, x2, x3, x4] (by rfl) (by rfl) (by rfl) HOW.out (by simpa using hx0) (Nat.le_trans hbw HBD.out.size) ?_; intro v' w3' hown hgr; have HO := Lib.hid (HR.out.more (HBD.out.alloc (Nat.le_refl _) _) hown hgr); clear hown hgr)
          exact ⟨⟨k3, xs ++ [x1, x2, x3, x4], by omega, by go_num, HO.out, by simp; omega, by rw [List.append_assoc, ← HF, HV.out]⟩, by simp [intOf]; omega⟩
      · have c0 := hcl _ HR.out.2 k (by rw [HL.out]; omega)
        have c1 := hcl _ HR.out.2 (k + 1) (by rw [HL.out]; omega)
        have q0 := getD_le HLE.out k
        have q1 := getD_le HLE.out (k + 1)
        have HD := Lib.hid (show bs.drop k = [bs.getD k 0, bs.getD (k + 1) 0] by rw [drop_cons (k := k) (by rw [HL.out]; omega), drop_cons (k := k + 1) (by rw [HL.out]; omega), List.drop_eq_nil_of_le (by rw [HL.out]; omega)])
        clear hcl hln
        generalize bs.getD k 0 = a at *
        generalize bs.getD (k + 1) 0 = b at *
        obtain ⟨z1, z2, z3, y1, z4, y2, y3, y4, z5, z6, m1, m2, m3, m4, m5, m6, m7, m8, m9, m10, hall, l1, l2, l3, l4, l5, l6, l7, l8, l9, l10⟩ := ref_nums a b 0 q0 q1 (by omega)
        obtain rfl : z4 = z3 := hall.2.2.2.2.2 rfl
        have HALL := Lib.hid hall
        have HY := Lib.hid (⟨l1, l2, l3, l4⟩ : y1 < 64 ∧ y2 < 64 ∧ y3 < 64 ∧ y4 < 64)
        have g1 := sg_ati y1 l1
        have g2 := sg_ati y2 l2
        have g3 := sg_ati y3 l3
        have g4 := sg_ati y4 l4
        have wa : IntKind.i64.wrap (a : Int) = (a : Int) := IntWalk.i64_in _ (by omega)
        have wb : IntKind.i64.wrap (b : Int) = (b : Int) := IntWalk.i64_in _ (by omega)
        have wz1 : IntKind.i64.wrap (z1 : Int) = (z1 : Int) := IntWalk.i64_in _ (by omega)
        have wz2 : IntKind.i64.wrap (z2 : Int) = (z2 : Int) := IntWalk.i64_in _ (by omega)
        have wz4 : IntKind.i64.wrap (z4 : Int) = (z4 : Int) := IntWalk.i64_in _ (by omega)
        obtain ⟨k1, e1⟩ : ∃ k1, k + 1 = k1 := ⟨_, rfl⟩
        obtain ⟨k2, e2⟩ : ∃ k2, k + 2 = k2 := ⟨_, rfl⟩
        obtain ⟨k3, e3⟩ : ∃ k3, k + 3 = k3 := ⟨_, rfl⟩
        have i1 : (k : Int) + 1 = (k1 : Int) := by omega
        have i2 : (k : Int) + 2 = (k2 : Int) := by omega
        have i3 : (k : Int) + 3 = (k3 : Int) := by omega
        have w1 : IntKind.i64.wrap (k1 : Int) = (k1 : Int) := IntWalk.i64_in _ (by omega)
        have w2 : IntKind.i64.wrap (k2 : Int) = (k2 : Int) := IntWalk.i64_in _ (by omega)
        have w3 : IntKind.i64.wrap (k3 : Int) = (k3 : Int) := IntWalk.i64_in _ (by omega)
        have hki : (k : Int) < (n : Int) := by omega
        rw [e1] at c1
        have j1 : (k1 : Int) < (n : Int) := by omega
        have j1' : ¬ (n : Int) ≤ (k1 : Int) := by omega
        have j2 : ¬ (k2 : Int) < (n : Int) := by omega
        have j2' : (n : Int) ≤ (k2 : Int) := by omega
        have HF : Hid (b64E (bs.drop k) = [sgC y1, sgC y2, sgC y3, 61] ++ b64E (bs.drop k3)) := by
          obtain ⟨h1, h2, h3, h4, _⟩ := HALL.out
          show _ = _
          rw [HD.out, h1, h2, h3, List.drop_eq_nil_of_le (show bs.length ≤ k3 by rw [HL.out]; omega)]
          rfl
        have HOW := Lib.hid (own_bel HR.out.1 ((Below.refl wr.heap.size wr).drew))
        have HBD := Lib.hid ((Below.refl wr.heap.size wr).drew)
        have hx0 : xs.length + 4 ≤ 100000000 := by omega
        clear hall l1 l2 l3 l4 l5 l6 l7 l8 l9 l10 HALL HY
        generalize sgC y1 = x1 at *
        generalize sgC y2 = x2 at *
        generalize sgC y3 = x3 at *
        generalize sgC y4 = x4 at *
        have hr4 := row4 wr.drew (.int .u8 (x1 : Int)) (.int .u8 (x2 : Int)) (.int .u8 (x3 : Int)) (.int .u8 (x4 : Int))
        obtain ⟨r1, r2, r3, r4⟩ := hr4
        have s1 := (set4 wr.drew (.int .u8 (x1 : Int)) (.int .u8 (x2 : Int)) (.int .u8 (x3 : Int)) (.int .u8 (x4 : Int)) (.int .u8 61) rfl rfl rfl).1
        have s2 := (set4 wr.drew (.int .u8 (x1 : Int)) (.int .u8 (x2 : Int)) (.int .u8 (x3 : Int)) (.int .u8 (x4 : Int)) (.int .u8 61) rfl rfl rfl).2
        obtain ⟨r5, r6, r7, r8⟩ := row4 wr.drew (.int .u8 (x1 : Int)) (.int .u8 (x2 : Int)) (.int .u8 61) (.int .u8 (x4 : Int))
        have s3 := (set4 wr.drew (.int .u8 (x1 : Int)) (.int .u8 (x2 : Int)) (.int .u8 61) (.int .u8 (x4 : Int)) (.int .u8 61) rfl rfl rfl).2
        go_wp2_with fail
        go_region_held3 (fun _ => True) (trivial) (fail)
        all_goals
          go_wp2_with (at_builtin; refine wp_lit (by rfl) (.tmp 75) (.tmp 76) (by rfl) w.heap.size u3 xs [x1, x2, x3, 61] (by rfl) (by rfl) (by rfl) HOW.out (by simpa using hx0) (Nat.le_trans hbw HBD.out.size) ?_; intro v' w3' hown hgr; have HO := Lib.hid (HR.out.more (HBD.out.alloc (Nat.le_refl _) _) hown hgr); clear hown hgr)
          exact ⟨⟨k3, xs ++ [x1, x2, x3, 61], by omega, by go_num, HO.out, by simp; omega, by rw [List.append_assoc, ← HF, HV.out]⟩, by simp [intOf]; omega⟩
      · have c0 := hcl _ HR.out.2 k (by rw [HL.out]; omega)
        have q0 := getD_le HLE.out k
        have HD := Lib.hid (show bs.drop k = [bs.getD k 0] by rw [drop_cons (k := k) (by rw [HL.out]; omega), List.drop_eq_nil_of_le (by rw [HL.out]; omega)])
        clear hcl hln
        generalize bs.getD k 0 = a at *
        obtain ⟨z1, z2, z3, y1, z4, y2, y3, y4, z5, z6, m1, m2, m3, m4, m5, m6, m7, m8, m9, m10, hall, l1, l2, l3, l4, l5, l6, l7, l8, l9, l10⟩ := ref_nums a 0 0 q0 (by omega) (by omega)
        obtain rfl : z4 = z3 := hall.2.2.2.2.2 rfl
        obtain rfl : z4 = z1 := hall.2.2.2.2.1 rfl
        have HALL := Lib.hid hall
        have HY := Lib.hid (⟨l1, l2, l3, l4⟩ : y1 < 64 ∧ y2 < 64 ∧ y3 < 64 ∧ y4 < 64)
        have g1 := sg_ati y1 l1
        have g2 := sg_ati y2 l2
        have g3 := sg_ati y3 l3
        have g4 := sg_ati y4 l4
        have wa : IntKind.i64.wrap (a : Int) = (a : Int) := IntWalk.i64_in _ (by omega)
        have wz2 : IntKind.i64.wrap (z2 : Int) = (z2 : Int) := IntWalk.i64_in _ (by omega)
        have wz4 : IntKind.i64.wrap (z4 : Int) = (z4 : Int) := IntWalk.i64_in _ (by omega)
        obtain ⟨k1, e1⟩ : ∃ k1, k + 1 = k1 := ⟨_, rfl⟩
        obtain ⟨k2, e2⟩ : ∃ k2, k + 2 = k2 := ⟨_, rfl⟩
        obtain ⟨k3, e3⟩ : ∃ k3, k + 3 = k3 := ⟨_, rfl⟩
        have i1 : (k : Int) + 1 = (k1 : Int) := by omega
        have i2 : (k : Int) + 2 = (k2 : Int) := by omega
        have i3 : (k : Int) + 3 = (k3 : Int) := by omega
        have w1 : IntKind.i64.wrap (k1 : Int) = (k1 : Int) := IntWalk.i64_in _ (by omega)
        have w2 : IntKind.i64.wrap (k2 : Int) = (k2 : Int) := IntWalk.i64_in _ (by omega)
        have w3 : IntKind.i64.wrap (k3 : Int) = (k3 : Int) := IntWalk.i64_in _ (by omega)
        have hki : (k : Int) < (n : Int) := by omega
        have j1 : ¬ (k1 : Int) < (n : Int) := by omega
        have j1' : (n : Int) ≤ (k1 : Int) := by omega
        have j2 : ¬ (k2 : Int) < (n : Int) := by omega
        have j2' : (n : Int) ≤ (k2 : Int) := by omega
        have HF : Hid (b64E (bs.drop k) = [sgC y1, sgC y2, 61, 61] ++ b64E (bs.drop k3)) := by
          obtain ⟨h1, h2, h3, h4, _⟩ := HALL.out
          show _ = _
          rw [HD.out, h1, h2, List.drop_eq_nil_of_le (show bs.length ≤ k3 by rw [HL.out]; omega)]
          rfl
        have HOW := Lib.hid (own_bel HR.out.1 ((Below.refl wr.heap.size wr).drew))
        have HBD := Lib.hid ((Below.refl wr.heap.size wr).drew)
        have hx0 : xs.length + 4 ≤ 100000000 := by omega
        clear hall l1 l2 l3 l4 l5 l6 l7 l8 l9 l10 HALL HY
        generalize sgC y1 = x1 at *
        generalize sgC y2 = x2 at *
        generalize sgC y3 = x3 at *
        generalize sgC y4 = x4 at *
        have hr4 := row4 wr.drew (.int .u8 (x1 : Int)) (.int .u8 (x2 : Int)) (.int .u8 (x3 : Int)) (.int .u8 (x4 : Int))
        obtain ⟨r1, r2, r3, r4⟩ := hr4
        have s1 := (set4 wr.drew (.int .u8 (x1 : Int)) (.int .u8 (x2 : Int)) (.int .u8 (x3 : Int)) (.int .u8 (x4 : Int)) (.int .u8 61) rfl rfl rfl).1
        have s2 := (set4 wr.drew (.int .u8 (x1 : Int)) (.int .u8 (x2 : Int)) (.int .u8 (x3 : Int)) (.int .u8 (x4 : Int)) (.int .u8 61) rfl rfl rfl).2
        obtain ⟨r5, r6, r7, r8⟩ := row4 wr.drew (.int .u8 (x1 : Int)) (.int .u8 (x2 : Int)) (.int .u8 61) (.int .u8 (x4 : Int))
        have s3 := (set4 wr.drew (.int .u8 (x1 : Int)) (.int .u8 (x2 : Int)) (.int .u8 61) (.int .u8 (x4 : Int)) (.int .u8 61) rfl rfl rfl).2
        go_wp2_with fail
        go_region_held3 (fun _ => True) (trivial) (fail)
        all_goals
          go_wp2_with (at_builtin; refine wp_lit (by rfl) (.tmp 75) (.tmp 76) (by rfl) w.heap.size u3 xs [x1, x2, 61, 61] (by rfl) (by rfl) (by rfl) HOW.out (by simpa using hx0) (Nat.le_trans hbw HBD.out.size) ?_; intro v' w3' hown hgr; have HO := Lib.hid (HR.out.more (HBD.out.alloc (Nat.le_refl _) _) hown hgr); clear hown hgr)
          exact ⟨⟨k3, xs ++ [x1, x2, 61, 61], by omega, by go_num, HO.out, by simp; omega, by rw [List.append_assoc, ← HF, HV.out]⟩, by simp [intOf]; omega⟩
    · have hki : ¬ (k : Int) < (n : Int) := by omega
      have HF : Hid (b64E bs = xs) := by
        show _ = _
        rw [← HV.out, List.drop_eq_nil_of_le (show bs.length ≤ k by rw [HL.out]; omega)]
        simp [b64E]
      go_wp2
      go_ret
      exact ⟨_, rfl, by rw [HF]; exact HR.out⟩

end Go.Proofs.Ythofhljbipkiaaa.Co
