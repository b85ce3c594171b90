import Derived.Test.YthofhljbipkiaaaCoW
namespace Go.Proofs.Ythofhljbipkiaaa.Co
open Go.RowKit
open Go.Proofs.Ythofhljbipkiaaa.Tp
set_option linter.unusedVariables false

theorem hexD_odd : ∀ {l : List Nat}, l.length % 2 ≠ 0 → hexD l = none
  | [], h => by simp at h
  | [_], _ => rfl
  | a :: b :: r, h => by
    rw [hexD, hexD_odd (l := r) (by simp at h; omega)]
    split <;> rfl

theorem dg_pos {c : Nat} (h : hexB c = true) : dgV c = (hv c : Int) := if_pos h
theorem dg_neg {c : Nat} (h : hexB c = false) : dgV c = -1 := if_neg (by rw [h]; decide)

theorem digit_pos {c : Nat} (h : hexB c = true) (w : World) : Calls Try.prog 65 #[.int .u8 c] w fun e w' => e = .returned (.int .i64 (hv c : Nat)) ∧ w = w' := by
  have := digit_any c w
  rw [dg_pos h] at this
  exact this

theorem digit_neg {c : Nat} (h : hexB c = false) (w : World) : Calls Try.prog 65 #[.int .u8 c] w fun e w' => e = .returned (.int .i64 (-1)) ∧ w = w' := by
  have := digit_any c w
  rw [dg_neg h] at this
  exact this

theorem hx_nums (p q : Nat) (hp : p < 16) (hq : q < 16) : ∃ z t : Nat, (p : Int) * 16 = (z : Int) ∧ IntKind.i64.wrap (z : Int) = (z : Int) ∧ bits .or .i64 (z : Int) (q : Int) = (t : Int) ∧ IntKind.u8.wrap (t : Int) = (t : Int) ∧ t = p * 16 + q ∧ z ≤ 240 ∧ t ≤ 255 := by
  refine ⟨p * 16, p * 16 + q, by omega, IntWalk.i64_in _ (by omega), or_i64 _ _ 4 (by omega) ⟨p, by omega⟩ (by omega), ?_, rfl, by omega, by omega⟩
  rw [IntKind.wrap_u8]
  omega


set_option maxRecDepth 100000 in
set_option maxHeartbeats 4000000 in
theorem refhex_any (v : Value) (bs : List Nat) (w : World) (h : By w v bs) (hn : bs.length ≤ 1000000) : Calls Try.prog 51 #[v] w (OptPost (hexD bs) w) := by
  have HBY := Lib.hid h
  have hle := h.1
  have HLE := Lib.hid hle
  obtain ⟨D, cp, rfl⟩ := h.form
  obtain ⟨n, hL⟩ : ∃ n, bs.length = n := ⟨_, rfl⟩
  rw [hL] at hn ⊢
  have HL := Lib.hid hL
  clear h hle hL
  by_cases h2 : n % 2 = 0
  · have hm : (n : Int).tmod 2 = 0 := by rw [Int.tmod_eq_emod_of_nonneg (by omega)]; omega
    have hm2 : (n : Int) % 2 = 0 := by omega
    go_enter Try.func51, Try.ntmps51
    go_wp2_with fail
    go_loopw [4, 5] (fun u i wr => ∃ (k : Nat) (xs : List Nat), k ≤ n ∧ k % 2 = 0 ∧ i = .int .i64 (k : Int) ∧ ERel w xs u wr ∧ xs.length ≤ k ∧ hexD bs = (hexD (bs.drop k)).map (xs ++ ·)) (fun _ i _ => n - (intOf i).toNat)
    case atStart => exact ⟨0, [], by omega, rfl, rfl, ERel.start w, by simp, by simp⟩
    case round =>
      obtain ⟨k, xs, hk, hk2, rfl, hrel, hlen, hval⟩ := hrel
      have HR := Lib.hid hrel
      have hbw := hrel.2.size
      have HV := Lib.hid hval
      clear hrel hval
      by_cases hlt : k < n
      · obtain ⟨hln, p0, off, rfl, hp0, hcl⟩ := HBY.out.at_ (by rw [HL.out]; omega)
        obtain ⟨k1, e1⟩ : ∃ k1, k + 1 = k1 := ⟨_, rfl⟩
        obtain ⟨k2, e2⟩ : ∃ k2, k + 2 = k2 := ⟨_, rfl⟩
        have i1 : (k : Int) + 1 = (k1 : Int) := by omega
        have i2 : (k : Int) + 2 = (k2 : Int) := by omega
        have w1 : IntKind.i64.wrap (k1 : Int) = (k1 : Int) := IntWalk.i64_in _ (by omega)
        have w2 : IntKind.i64.wrap (k2 : Int) = (k2 : Int) := IntWalk.i64_in _ (by omega)
        have hki : (k : Int) < (n : Int) := by omega
        have hk1i : (k1 : Int) < (n : Int) := by omega
        have d0 := hcl _ HR.out.2.drew k (by rw [HL.out]; omega)
        have d1 := hcl _ HR.out.2.drew k1 (by rw [HL.out]; omega)
        have HD := Lib.hid (show bs.drop k = bs.getD k 0 :: bs.getD k1 0 :: bs.drop k2 by rw [drop_cons (k := k) (by rw [HL.out]; omega), e1, drop_cons (k := k1) (by rw [HL.out]; omega), show k1 + 1 = k2 by omega])
        have HOW := Lib.hid (own_bel HR.out.1 ((Below.refl wr.heap.size wr).drew))
        have HBD := Lib.hid ((Below.refl wr.heap.size wr).drew)
        clear hcl hln
        generalize bs.getD k 0 = x at *
        generalize bs.getD k1 0 = y at *
        cases hx : hexB x
        · have HF : Hid (hexD bs = none) := by
            show _ = _
            rw [HV.out, HD.out, hexD, hx]
            rfl
          have CX := Lib.hid (fun w => digit_neg hx w)
          obtain ⟨B, hB⟩ : ∃ B, dgV y = B := ⟨_, rfl⟩
          have cy := fun w => digit_any y w
          rw [hB] at cy
          have CY := Lib.hid cy
          clear cy hB
          clear hx
          go_wp2_with fail
          go_region_held3 (fun w' => w'.cell? ⟨p0, off + k, none⟩ = some (.int .u8 (x : Int)) ∧ w'.cell? ⟨p0, off + k1, none⟩ = some (.int .u8 (y : Int))) (first | exact ⟨d0, d1⟩ | assumption) (first
            | (go_at_call 65; with_reducible refine (CX.out _).mono ?_; rintro e w4 ⟨rfl, rfl⟩)
            | (go_at_call 65; with_reducible refine (CY.out _).mono ?_; rintro e w4 ⟨rfl, rfl⟩))
          all_goals
            go_wp2_with fail
            go_ret2
            exact ⟨by rw [HF]; rfl, HR.out.2.trans (HBD.out.mono hbw)⟩
        · cases hy : hexB y
          · have HF : Hid (hexD bs = none) := by
              show _ = _
              rw [HV.out, HD.out, hexD, hx, hy]
              rfl
            have hp := hv_lt hx
            have CX := Lib.hid (fun w => digit_pos hx w)
            have CY := Lib.hid (fun w => digit_neg hy w)
            generalize hv x = p at *
            have s1 : ¬ (p : Int) < 0 := by omega
            clear hx hy
            go_wp2_with fail
            go_region_held3 (fun w' => w'.cell? ⟨p0, off + k, none⟩ = some (.int .u8 (x : Int)) ∧ w'.cell? ⟨p0, off + k1, none⟩ = some (.int .u8 (y : Int))) (first | exact ⟨d0, d1⟩ | assumption) (first
              | (go_at_call 65; with_reducible refine (CX.out _).mono ?_; rintro e w4 ⟨rfl, rfl⟩)
              | (go_at_call 65; with_reducible refine (CY.out _).mono ?_; rintro e w4 ⟨rfl, rfl⟩))
            all_goals
              go_wp2_with fail
              go_ret2
              exact ⟨by rw [HF]; rfl, HR.out.2.trans (HBD.out.mono hbw)⟩
          · have hp := hv_lt hx
            have hq := hv_lt hy
            have CX := Lib.hid (fun w => digit_pos hx w)
            have CY := Lib.hid (fun w => digit_pos hy w)
            have HF : Hid (hexD bs = (hexD (bs.drop k2)).map ((xs ++ [hv x * 16 + hv y]) ++ ·)) := by
              show _ = _
              rw [HV.out, HD.out, hexD, hx, hy, Bool.and_self, if_pos rfl, Option.map_map]
              congr 1
              funext z
              simp
            obtain ⟨z, t, g1, g2, g3, g4, ht, hz, ht2⟩ := hx_nums _ _ hp hq
            rw [← ht] at HF
            clear ht hx hy
            generalize hv x = p at *
            generalize hv y = q at *
            have s1 : ¬ (p : Int) < 0 := by omega
            have s2 : ¬ (q : Int) < 0 := by omega
            go_wp2_with fail
            go_region_held3 (fun w' => w'.cell? ⟨p0, off + k, none⟩ = some (.int .u8 (x : Int)) ∧ w'.cell? ⟨p0, off + k1, none⟩ = some (.int .u8 (y : Int))) (first | exact ⟨d0, d1⟩ | assumption) (first
              | (go_at_call 65; with_reducible refine (CX.out _).mono ?_; rintro e w4 ⟨rfl, rfl⟩)
              | (go_at_call 65; with_reducible refine (CY.out _).mono ?_; rintro e w4 ⟨rfl, rfl⟩))
            all_goals
              go_wp2_with (at_builtin; refine wp_lit (by rfl) (.tmp 35) (.tmp 41) (by rfl) w.heap.size u4 xs [t] (by rfl) (by rfl) (by rfl) HOW.out (by simp; omega) (Nat.le_trans hbw HBD.out.size) ?_; intro v' w3 hown hgr; have HO := Lib.hid (HR.out.more (HBD.out.alloc (Nat.le_refl _) _) hown hgr); clear hown hgr)
              exact ⟨⟨k2, xs ++ [t], by omega, by omega, by go_num, HO.out, by simp; omega, HF⟩, by simp [intOf]; omega⟩
      · obtain rfl : k = n := by omega
        have HF := Lib.hid (show hexD bs = some xs by rw [HV.out, List.drop_eq_nil_of_le (by rw [HL.out]; exact Nat.le_refl _)]; simp [hexD])
        go_wp2
        go_ret2
        exact ⟨by rw [HF.out]; exact ⟨_, rfl, HR.out⟩, HR.out.2⟩
  · obtain ⟨m, hmm⟩ : ∃ m, n % 2 = m := ⟨_, rfl⟩
    have hm1 : (n : Int).tmod 2 = (m : Int) := by rw [Int.tmod_eq_emod_of_nonneg (by omega)]; omega
    have hm2 : (n : Int) % 2 = (m : Int) := by omega
    have hmb : ((m : Int) == 0) = false := beq_eq_false_iff_ne.2 (by omega)
    have hmn : ¬ m = 0 := by omega
    have hmw : IntKind.i64.wrap (m : Int) = (m : Int) := IntWalk.i64_in _ (by omega)
    rw [hexD_odd (by rw [HL.out]; exact h2)]
    go_enter Try.func51, Try.ntmps51
    go_wp2
    go_ret2
    exact ⟨rfl, Below.refl _ _⟩

end Go.Proofs.Ythofhljbipkiaaa.Co
